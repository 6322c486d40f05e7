import PyProof.Rows.All
import Wide.All
import OpenK.AllK
import Wide.FinOn
import HandS.ExcInit
import HandS.Words
import HandS.List
import KE.KExcIs
import PyProof.ReprRoads
import HandS.Ends
import HandS.ExcValue
import HandS.IsInst
import HandS.Property
import HandS.ClsMeth
import HandS.Gcd
import HandS.ForMost
import KE.DataMinMax
import HandS.SortKw
import HandS.Defaults
import KE.KOpsOwn
import PyProof.InstNe
import HandS.Wide
import HandS.OwnEq
import HandS.MakeKwOnly
import PySem.Challenge.RW_headgap_k31_rates_made_and_reckoned
import HandS.RaiseMore
set_option Elab.async false
set_option linter.all false
set_option maxRecDepth 100000
set_option maxHeartbeats 4000000
/-! own rules 1: exceptions with an own __init__ as values, made with positional values and keywords -/
namespace PySem
namespace KU
open PySem.W PySem.Calls PyProof.Rows PySem.HandSPX
section
variable {M : Model} {prog : Program} {w : World} {A : Around} {E : Value → Shared → Prop} {R : Result → Shared → Prop}
  {h : Heap} {g : Array GenState} {d : Drawn} {t : Nat} {os : OsState}
variable {nm q : Str} {C N : Addr} {bs bm bmB : List Value} {hdct : Bool} {sn : List Str} {sub : List Value} {ab : Bool}
  {col : Option Bool} {dd : Option Addr} {k0 k1 k2 k3 k5 : Option Value} {B newId initId : String}
theorem ck_new (F : ExcBaseFacts B newId initId bmB)
    (hT : ∀ Y : String, bm.contains (.type Y) = bmB.contains (.type Y)) {us : List Value} {kw : List (Str × Value)}
    {Q : Unit → Shared → Prop}
    (hC : h.get? C = some (excClassObj nm q C N bs bm hdct sn sub ab col dd k0 k1 k2 k3 k5 newId))
    (hq : Q () ⟨h, g, d, t, os⟩) :
    wpAny M A (checkBuiltinCall newId ⟨.ref C :: us, kw⟩) Q E ⟨h, g, d, t, os⟩ := by
  have inB : (Value.ref C :: bm).contains (.type B) = true := by
    rw [List.contains_cons, hT, F.hasB, Bool.or_true]
  have ns := F.noStar
  simp only [checkBuiltinCall, F.newKind, F.newSplit, F.newRow]
  repeat (first
    | refine wpAny_loadPart_at hC ?_
    | (refine wpAny_isSubtype_exc hC ?_; rw [inB])
    | refine wpAny_staticBase_exc hC ?_
    | refine wpAny_madeBy_exc hC ?_
    | simp only [bne_self_eq_false, Bool.false_eq_true, if_false]
    | wp_step)
  exact hq
theorem newK (F : ExcBaseFacts B newId initId bmB)
    (hT : ∀ Y : String, bm.contains (.type Y) = bmB.contains (.type Y)) {us : List Value} {kw : List (Str × Value)}
    (hC : h.get? C = some (excClassObj nm q C N bs bm hdct sn sub ab col dd k0 k1 k2 k3 k5 newId))
    (hus : us.length ≤ sizeLine)
    (hq : R (.ok (.ret (.ref (h.objs.size + 1)))) ⟨(h.push (W.kdv_tup us)).push (excO C h.objs.size), g, d, t, os⟩) :
    codeAny (model prog w) A (.builtin newId ⟨.ref C :: us, kw⟩) R ⟨h, g, d, t, os⟩ := by
  have en := F.ends
  have inB : (Value.ref C :: bm).contains (.type B) = true := by
    rw [List.contains_cons, hT, F.hasB, Bool.or_true]
  have inA : (Value.ref C :: bm).contains (.type "AttributeError") = false := by
    rw [List.contains_cons, hT, F.noAttr]; rfl
  have inN : (Value.ref C :: bm).contains (.type "NameError") = false := by
    rw [List.contains_cons, hT, F.noName]; rfl
  refine codeAny_builtinAt F.entry ?_
  unfold Builtin.«BaseException.__new__»
  refine wpAt_bind ?_
  show wpAt _ _ _ (stack >>= _) _ _ _
  refine wpAt_bind (wpAt_stack fun p below => wpAt_of_wpAny ?_)
  wp_walk
  refine wpAt_of_wpAny ?_
  rw [F.owner]
  repeat (first
    | with_reducible refine wpAny_madeHere_exc F.canon hC ?_
    | with_reducible refine wpAny_loadPart_at hC ?_
    | (with_reducible refine wpAny_isSubtype_exc hC ?_
       first | rw [inB] | rw [inA] | rw [inN])
    | wp_step)
  show R _ _
  rw [Heap.size_push]
  exact hq
theorem tcallK (F : ExcBaseFacts B newId initId bmB)
    (hT : ∀ Y : String, bm.contains (.type Y) = bmB.contains (.type Y)) {us : List Value} {kw : List (Str × Value)}
    {fI : Addr} {Q : Fin → Shared → Prop}
    (hC : h.get? C = some (excClassObj nm q C N bs bm hdct sn sub ab col dd k0 k1 k2 k3 k5 newId))
    (hi : W.Looks (model prog w) h (typeLookup (.ref C) "__init__") (some (.ref fI)))
    (hb : ∀ self, W.Looks (model prog w) h (bindSpecial (.ref fI) self) (.ref fI, [self]))
    (hus : us.length ≤ sizeLine)
    (hq : codeAny (model prog w) A (.call (.ref fI) ⟨.ref (h.objs.size + 1) :: us, kw⟩)
      (fun r s' => match r with
        | .ok (.ret v) => v = .none ∧ Q (.done (.ret (.ref (h.objs.size + 1)))) s'
        | .ok _ => False
        | .error e => E e s')
      ⟨(h.push (W.kdv_tup us)).push (excO C h.objs.size), g, d, t, os⟩) :
    wpAny (model prog w) A (Builtin.«type.__call__» ⟨.ref C :: us, kw⟩) Q E ⟨h, g, d, t, os⟩ := by
  repeat (first
    | with_reducible refine wpAny_loadPart_at hC ?_
    | with_reducible refine wpAny_madeBy_exc hC ?_
    | wp_step)
  refine codeAny_call_builtin_code (Code.quiet_builtin _ F.quiet) (ck_new F hT hC ?_)
  refine newK F hT hC hus ?_
  show wpAny _ _ _ _ _ _
  have k : ∀ b o, h.get? b = some o →
      ((h.push (W.kdv_tup us)).push (excO C h.objs.size)).get? b = some o := fun b o e =>
    Heap.get?_push_of_some _ (Heap.get?_push_of_some _ e)
  have hC1 := k _ _ hC
  have hg : ((h.push (W.kdv_tup us)).push (excO C h.objs.size)).get? (h.objs.size + 1) =
    some (excO C h.objs.size) := by heap_get
  have inC : (Value.ref C :: bm).contains (.ref C) = true := by simp
  have i1 := hi.keeps k
  have b1 := (hb (.ref (h.objs.size + 1))).keeps k
  unfold isInstance
  repeat (first
    | with_reducible refine wpAny_loadPart_at hg ?_
    | (with_reducible refine wpAny_isSubtype_exc hC1 ?_
       rw [inC])
    | wp_step)
  show wpAny _ _ (typeLookup (.ref C) _) _ _ _
  refine i1.at ?_
  refine wpAny_holding (wpAny_bind (b1.at ?_))
  refine wpAny_bind (wpAny_call (codeAny_mono hq fun r s' z => ?_))
  rcases r with e | (v | _ | _ | _) <;> first | exact z | exact z.elim | skip
  obtain ⟨rfl, z⟩ := z
  first
    | exact wpAny_pure (wpAny_pure z)
    | (wp_walk; exact z)
theorem callK (F : ExcBaseFacts B newId initId bmB)
    (hT : ∀ Y : String, bm.contains (.type Y) = bmB.contains (.type Y)) {us : List Value} {kw : List (Str × Value)}
    {fI : Addr}
    (hC : h.get? C = some (excClassObj nm q C N bs bm hdct sn sub ab col dd k0 k1 k2 k3 k5 newId))
    (hi : W.Looks (model prog w) h (typeLookup (.ref C) "__init__") (some (.ref fI)))
    (hb : ∀ self, W.Looks (model prog w) h (bindSpecial (.ref fI) self) (.ref fI, [self]))
    (hus : us.length ≤ sizeLine)
    (hq : codeAny (model prog w) (A.under (.builtin "type.__call__" ⟨.ref C :: us, kw⟩))
      (.call (.ref fI) ⟨.ref (h.objs.size + 1) :: us, kw⟩) (W.InitBack (h.objs.size + 1) R)
      ⟨(h.push (W.kdv_tup us)).push (excO C h.objs.size), g, d, t, os⟩) :
    codeAny (model prog w) A (.call (.ref C) ⟨us, kw⟩) R ⟨h, g, d, t, os⟩ := by
  have l1 := tc_lookup
  have l2 := tc_bind (.ref C)
  have ty : (⟨h, g, d, t, os⟩ : Shared).TypeIs (.ref C) "type" := ⟨_, hC, rfl⟩
  refine codeAny_of_tree ?_
  show wpAny _ _ (callAny (.ref C) _) _ _ _
  repeat (any_goals (first
    | assumption
    | with_reducible refine wpAny_loadPart_at hC ?_
    | wp_step))
  refine ⟨rfl, ?_⟩
  refine codeAny_call_builtin_at (Code.quiet_builtin _ (by decide +kernel)) entry_typeCall
    (wpAny_check_type_call_sub hC (tcallK F hT hC hi hb hus ?_))
  refine codeAny_mono hq fun r s' z => ?_
  rcases r with e | (v | _ | _ | _) <;> exact z
end
end KU
end PySem

/-! own rules 2: C(..) of an own exception class as a value, over the layer -/
namespace L2
open PySem PySem.Spec PyProof.Rows
/-- C(.., k = ..) as a value -/
def tMkX (C : Addr) (sp : Sp) (gv : List V → List V) (ta : TA) : TE := fun σ H Q => ta σ H fun vs H1 =>
  vs.length ≤ 1000 ∧ ∀ a, H1 a = none → sp (.ref a :: gv vs) (upd H1 a (exo a C none))
    (fun v H2 => v = .non ∧ Q (.ref a) H2) E0
/-- the class's facts -/
structure XMk (K : PySem.W.Frag) (C fI : Addr) : Prop where
  T : OexC K C
  ini : PySem.W.findIn K (.ref C) "__init__" = some (some (.ref fI))
  ty : PySem.W.typeIn K (.ref fI) = some (.type "function")
section
variable {X : Cx} {C fI : Addr} {k : Nat} {fd : FuncData} {ps : List Str} {sp : Sp}
theorem run_mkx {pins : List (Addr × Obj)} {σ : St} {H : Hp} {s : Shared} {Q : VK} {us ws : List Value} {vs : List V}
    {kw : List (Str × Value)} (M : XMk X.K C fI) (F1 : FnOk X.prog X.w X.K X.mg X.base CX0 k fI fd ps sp)
    (hr : Room (k + 1) X.A) (I : Inv X pins σ H s) (r : Vals vs ws)
    (hb : ∀ (s' : Shared) (a : Addr), X.K.In s'.heap → BindsTo s' fd ⟨.ref a :: us, kw⟩ (ps.zip (.ref a :: ws)))
    (hus : us.length ≤ sizeLine)
    (h : ∀ a, H a = none → sp (.ref a :: vs) (upd H a (exo a C none)) (fun v H2 => v = .non ∧ Q (.ref a) H2) E0) :
    wpAny (model X.prog X.w) X.A (call (.ref C) us kw) (EP X pins σ Q) X.xe s := by
  obtain ⟨nm, q, N, bs, bm, sn, sub, ab, col, dd, k0, k1, k2, k3, k5, hC, hbm⟩ := M.T.cls
  obtain ⟨hp, g, dr, tk, os⟩ := s
  have up : hp.objs.size ≤ hp.objs.size + 1 := Nat.le_succ _
  have hq := h (hp.objs.size + 1) (I.hok.fresh up)
  have kk : ∀ b o, hp.get? b = some o →
      ((hp.push (PySem.W.kdv_tup us)).push (PySem.HandSPX.excO C hp.objs.size)).get? b = some o := fun b o e =>
    Heap.get?_push_of_some _ (Heap.get?_push_of_some _ e)
  have hg : ((hp.push (PySem.W.kdv_tup us)).push (PySem.HandSPX.excO C hp.objs.size)).get? (hp.objs.size + 1) =
    some (PySem.HandSPX.excO C hp.objs.size) := by heap_get
  have I2 : Inv X pins σ (upd H (hp.objs.size + 1) (exo (hp.objs.size + 1) C none))
      ⟨(hp.push (PySem.W.kdv_tup us)).push (PySem.HandSPX.excO C hp.objs.size), g, dr, tk, os⟩ :=
    I.laid (t' := tk) (a := hp.objs.size + 1) (o := exo (hp.objs.size + 1) C none)
      (h' := (hp.push (PySem.W.kdv_tup us)).push (PySem.HandSPX.excO C hp.objs.size)) kk up (exo_ok hg)
  have r2 : Vals (V.ref (hp.objs.size + 1) :: vs) (Value.ref (hp.objs.size + 1) :: ws) := .cons rfl r
  refine wpAny_call (PySem.KU.callK F.excBase_ValueError (fun Y => PySem.HandSPX.refsVE_contains Y bm hbm)
    (I.kIn _ _ hC) (PySem.W.looks_findIn I.kIn M.ini) (fun self => PySem.W.bind_fn I.kIn self M.ty) hus
    (codeAny_mono (F1.run _ X.stack _ _ ⟨Value.ref (hp.objs.size + 1) :: us, kw⟩
      (Value.ref (hp.objs.size + 1) :: ws) _ _ E0 (hr.make C us kw) (I2.env0.make C us kw) (hb _ _ I2.kIn) r2 hq)
      fun rr s' z => ?_))
  cases rr with
  | error er => exact z.elim
  | ok fl =>
    cases fl with
    | ret u =>
      obtain ⟨v, H', I3, rv, ev, q3⟩ := I2.after z
      subst ev
      exact ⟨rv, ⟨V.ref (hp.objs.size + 1), H', I3, rfl, q3⟩⟩
    | next => exact False.elim z
    | brk => exact False.elim z
    | cont => exact False.elim z
/-- C(e, ..) -/
theorem pe_mkx {x : Str} {p pos : Pos} {e : Expr} {es : List Expr} {ta : TA} (M : XMk X.K C fI)
    (F1 : FnOk X.prog X.w X.K X.mg X.base CX0 k fI fd ps sp) (hr : Room (k + 1) X.A) (hg : Gl X x)
    (hm : X.mg x = some (.ref C)) (hb : Binds X.K fd ps []) (ha : PA X (e :: es) ta)
    (hdb : (x == ("__debug__" : Str)) = false := by decide)
    (he : starEach (e :: es) X.env = (false, eval e X.env) :: starEach es X.env := by rfl)
    (hpl : (backTo pos (starEach es X.env)).any (·.1) = false := by rfl) :
    PE X (.Call (.Name x p) (e :: es) [] pos) (tMkX C sp id ta) := by
  refine ⟨fun pins s σ H Q I h => ?_⟩
  refine wpAny_Call_Name_kw (ld_glob I hg hm ?_ hdb)
  refine PySem.W.callWith_K (h₀ := X.base) I.ok.mod.kin M.T.kC
    (thn (ha.run pos pins s σ H _ I h) fun us s1 ⟨vs, H1, I1, r, hl, q⟩ => ⟨I1.kIn, ?_⟩) he hpl
  have hn := F1.len _ _ _ _ (q (s1.heap.objs.size) (I1.hok.fresh (Nat.le_refl _)))
  have hz : us.length ≤ sizeLine := by
    rw [← Paired.length r, sizeLine_eq]
    omega
  refine run_mkx (us := us) M F1 hr I1 r (fun s' a kin => ?_) hz q
  have z := hb s' (Value.ref a :: us) kin (by
    rw [List.append_nil, List.length_cons, ← Paired.length r, ← hn]
    rfl)
  rw [List.append_nil] at z
  exact z
/-- C(k = v, ..) -/
theorem pe_mkk {x : Str} {p pos : Pos} {kws : List Keyword} {tk : TA} {ks : List Str} {gv : List V → List V}
    {g : List Value → List Value} (M : XMk X.K C fI)
    (F1 : FnOk X.prog X.w X.K X.mg X.base CX0 k fI fd ps sp) (hr : Room (k + 1) X.A) (hg : Gl X x)
    (hm : X.mg x = some (.ref C))
    (hb : ∀ (s : Shared) (u : Value) (ws : List Value), X.K.In s.heap → ws.length + 1 = ps.length →
      BindsTo s fd ⟨[u], ks.zip ws⟩ (ps.zip (u :: g ws)))
    (hv : ∀ (vs : List V) (us : List Value), Vals vs us → Vals (gv vs) (g us))
    (hlen : ∀ vs : List V, (gv vs).length = vs.length)
    (hkw : PK X kws tk) (hall : (backToKw pos (keywordEach kws X.env)).all (·.1.isSome) = true := by rfl)
    (hks : (backToKw pos (keywordEach kws X.env)).filterMap (·.1) = ks := by rfl)
    (hdb : (x == ("__debug__" : Str)) = false := by decide)
    (hpl : ((backTo pos (starEach [] X.env)).any (·.1) ||
      (backToKw pos (keywordEach kws X.env)).any (·.1.isNone)) = false := by rfl) :
    PE X (.Call (.Name x p) [] kws pos) (tMkX C sp gv tk) := by
  refine ⟨fun pins s σ H Q I h => ?_⟩
  refine wpAny_Call_Name_kw (ld_glob I hg hm ?_ hdb)
  refine PySem.W.callWith_KW0 (h₀ := X.base) I.ok.mod.kin M.T.kC hall
    (thn (hkw.run pos pins s σ H _ I h) fun us s1 ⟨vs, H1, I1, r, hl, q⟩ => ⟨I1.kIn, ?_⟩) hpl
  rw [hks]
  have hn := F1.len _ _ _ _ (q (s1.heap.objs.size) (I1.hok.fresh (Nat.le_refl _)))
  refine run_mkx (us := []) M F1 hr I1 (hv _ _ r) (fun s' a kin => ?_) (Nat.zero_le _) q
  refine hb s' (Value.ref a) us kin ?_
  rw [← Paired.length r, ← hlen vs, ← hn]
  rfl
end
end L2

/-! own rules 3: an exception as a value: its fields, isinstance; repr of data -/
namespace L2
open PySem PySem.Spec PyProof.Rows
/-- what is asked of an own exception class, so that its objects are read and asked as values -/
structure XCl (K : PySem.W.Frag) (C : Addr) : Prop where
  ga : PySem.W.findIn K (.ref C) "__getattribute__" = some (some (.builtin "BaseException.__getattribute__"))
  gg : PySem.W.findIn K (.ref C) "__getattr__" = some none
  ex : PySem.W.subIn K (.ref C) (.type "BaseException") = some true
  hd : PySem.W.hasDictIn K C = true
  ci : (PySem.W.clsIn K C).isSome = true
  ca : PySem.W.findIn K (.ref C) "__class__" = some (some (.builtin "object.__class__"))
  cn : PySem.W.specialIn K (.builtin "object.__class__") "__get__" = some (some (.builtin "getset_descriptor.__get__"))
  ct : PySem.W.takesIn K (.builtin "object.__class__") = some true
  co : PySem.W.mroIn K C (.type "object") = some true
/-- e.f -/
def tXv (K : PySem.W.Frag) (f : Str) (te : TE) : TE := fun σ H Q => te σ H fun x H1 =>
  ∃ (a C dx : Addr) (fs : List (Str × V)) (v : V), x = .ref a ∧ XCl K C ∧ PySem.W.findIn K (.ref C) f = some none ∧
    H1 a = some (exo a C (some dx)) ∧ H1 dx = some (exd dx fs) ∧ fs.lookup f = some v ∧ Q v H1
theorem inst_exo {P : Program} {w : World} {H : Hp} {h : Heap} {a C dx : Addr} {fs : List (Str × V)}
    (hok : HOk P w H h) (ha : H a = some (exo a C (some dx))) (hd : H dx = some (exd dx fs)) :
    ∃ (oe od : Obj) (mA : Str → Option Value), PySem.W.InstAt h a oe C (some od) ∧ h.get? dx = some od ∧
      (∀ n, PySem.W.lookIn n od = some (mA n)) ∧ ∀ f, RelO (fs.lookup f) (mA f) := by
  obtain ⟨t1, he⟩ := exo_at hok ha
  obtain ⟨mA, hn, r⟩ := exd_at hok hd
  obtain ⟨od, ho, hl⟩ := lookIn_ns hn
  exact ⟨_, od, mA, ⟨he, rfl, rfl, ho⟩, ho, hl, r⟩
theorem inst_exo0 {P : Program} {w : World} {H : Hp} {h : Heap} {a C : Addr}
    (hok : HOk P w H h) (ha : H a = some (exo a C none)) : ∃ oe, PySem.W.InstAt h a oe C none := by
  obtain ⟨t1, he⟩ := exo_at hok ha
  exact ⟨_, ⟨he, rfl, rfl, trivial⟩⟩
section
variable {X : Cx}
theorem pe_xv {e : Expr} {te : TE} {pos : Pos} {f : Str} (he : PE X e te)
    (hb : attributeBase e f X.env (eval e X.env) = eval e X.env := by rfl) :
    PE X (.Attribute e f pos) (tXv X.K f te) := by
  refine ⟨fun pins s σ H Q I h => ?_⟩
  refine attr_of hb (thn (he.run pins s σ H _ I h) fun u s1 hh => ?_)
  obtain ⟨x, H1, I1, rx, a, C, dx, fs, v, ex, T, hno, ha, hd, l, q⟩ := hh
  subst ex
  obtain rfl : u = Value.ref a := rx
  obtain ⟨oe, od, mA, J, _, hl, hr⟩ := inst_exo I1.hok ha hd
  obtain ⟨u, hu, ru⟩ := RelO.some_of (v := v) (o := mA f) (by rw [← l]; exact hr f)
  exact HandSPX.exc_get I1.kIn J T.ga T.gg T.ex (PySem.W.findObj_own T.hd hno rfl (by rw [hl, hu]))
    (handed_of ru) ⟨v, H1, I1.tok _, ru, q⟩
/-- isinstance(e, c): e an exception object of an own class -/
def rIsv (K : PySem.W.Frag) : List V → Hp → VK → Prop := fun xs H Q =>
  ∃ (a C : Addr) (d : Option Addr) (c : V) (cv : Value) (b : Bool), xs = [.ref a, c] ∧ XCl K C ∧
    H a = some (exo a C d) ∧ (∀ dx, d = some dx → ∃ fs, H dx = some (exd dx fs)) ∧
    (∀ u, RelV c u → u = cv) ∧ PySem.W.kitOne K (.ref C) cv = some b ∧ Q (.bl b) H
theorem call_isv : CallR X (.builtin "isinstance") (rIsv X.K) := by
  intro pins s σ H xs us Q I r h
  obtain ⟨a, C, d, c, cv, b, rfl, T, ha, hd, hc, e, q⟩ := h
  obtain ⟨u1, u2, rfl, r1, r2⟩ := vals2 r
  obtain rfl : u1 = Value.ref a := r1
  have e2 := hc _ r2
  subst e2
  have fin : ∀ {oe : Obj} {od : Option Obj}, PySem.W.InstAt s.heap a oe C od →
      wpAny (model X.prog X.w) X.A (call (.builtin "isinstance") [.ref a, u2]) (EP X pins σ Q) X.xe s := fun J =>
    PySem.W.kia_one (PySem.W.kitx_exc T.ci T.ga T.gg T.ex T.ca T.cn T.ct T.co) I.kIn J e (fun z => nomatch z)
      fun tk => ⟨.bl b, H, I.tok tk, rfl, q⟩
  cases d with
  | none =>
    obtain ⟨oe, J⟩ := inst_exo0 I.hok ha
    exact fin J
  | some dx =>
    obtain ⟨fs, hx⟩ := hd dx rfl
    obtain ⟨oe, od, _, J, _⟩ := inst_exo I.hok ha hx
    exact fin J
end
end L2

/-! own rules 4: defs that ask for repr: the promise where no repr is under way -/
namespace L2
open PySem PySem.Spec PyProof.Rows
/-- as FnOk, for callers that have no repr under way -/
structure FnG (P : Program) (w : World) (K : PySem.W.Frag) (mg : Str → Option Value) (base : Heap) (CX : CXT)
    (k : Nat) (f : Addr) (fd : FuncData) (ps : List Str) (sp : Sp) : Prop where
  len : ∀ vs H Q E, sp vs H Q E → vs.length = ps.length
  run : ∀ (A : Around) (outer : List Env) (s : Shared) (H : Hp) (args : Args) (us : List Value) (vs : List V)
    (Q : VK) (E : XK), A.guards = some [] → Room k A → Env0 P w K mg base A outer s H →
    BindsTo s fd args (ps.zip us) → Vals vs us → sp vs H Q E →
    codeAny (model P w) A (.call (.ref f) args) (CR CX outer P w H s Q E) s
section
variable {P : Program} {w : World} {K : PySem.W.Frag} {mg : Str → Option Value} {base : Heap} {CX : CXT} {k : Nat}
  {f : Addr} {fd : FuncData} {ps : List Str} {sp : Sp}
theorem FnOk.g (F : FnOk P w K mg base CX k f fd ps sp) : FnG P w K mg base CX k f fd ps sp :=
  ⟨F.len, fun A outer s H args us vs Q E _ hr he hb hv hs => F.run A outer s H args us vs Q E hr he hb hv hs⟩
theorem FnG.mono {j : Nat} (F : FnG P w K mg base CX j f fd ps sp) (h : j ≤ k) : FnG P w K mg base CX k f fd ps sp :=
  ⟨F.len, fun A outer s H args us vs Q E hg hr => F.run A outer s H args us vs Q E hg (hr.mono h)⟩
/-- the rule for a def, guards known -/
theorem Fun.okG {x qual : Str} {st : Stmt} {N : List Str} (F : Fun K x qual st f fd) (S : FnScope N ps (defScope st))
    (len : ∀ vs H Q E, sp vs H Q E → vs.length = ps.length)
    (hbody : ∀ (cdv : Value) (A : Around) (outer : List Env) (s : Shared) (H : Hp) (vs : List V) (Q : VK) (E : XK),
      (A.deeper (envOfC qual (defScope st) s.heap.objs.size f cdv)).guards = some [] →
      Room k (A.deeper (envOfC qual (defScope st) s.heap.objs.size f cdv)) → sp vs H Q E →
      ∃ t, PSs (cxOf CX0 P w K mg base N qual (defScope st) f cdv A outer s H E).nox (defBody st) t ∧
        t { nx := fun _ H' => Q .non H', rt := Q } (start N vs) H) :
    FnG P w K mg base CX0 (k + 1) f fd ps sp := by
  obtain ⟨oc, od, kV, doc, pm, an, cdv, ct, osl, rfl, lk, hcd⟩ := F.ex
  refine ⟨len, fun A outer s H args us vs Q E hg hr e0 hb r hsp => ?_⟩
  have hl := len _ _ _ _ hsp
  have KX : K.In s.heap := e0.mod.kin.keeps fun b o e => (e0.bs b o e).1
  have lim : s.heap.NoLimit := e0.mod.nolimit.keeps fun b o e => (e0.bs b o e).1
  have kinds : ∀ y ∈ ps.zip us, (defScope st).names.lookup y.1 = some .local ∨
      ((defScope st).names.lookup y.1 = some .cell ∧
        ((cellsFrom (s.heap.objs.size + 1) (defScope st).names []).lookup y.1).isSome = true) := by
    rintro ⟨n, v⟩ hy
    rcases S.par n (List.of_mem_zip hy).1 with q | q
    · exact .inl q
    · exact .inr ⟨q, PySem.W.cellsFrom_some _ _ _ (.inl q)⟩
  refine codeAny_call_function hr.depth (KX _ _ lk) rfl S.co S.gen rfl (PySem.W.codeRec_of KX hcd) (hb _ _ _ _ ?_)
  refine wpAny_newFunctionEnv_cells S.kind kinds fun env he s1 x => ?_
  subst he
  refine ⟨lim.keeps x.toInCall.keep, codeAny_func ?_⟩
  have hg' : (A.deeper (envOfC qual (defScope st) s.heap.objs.size f cdv)).guards = some [] := by
    first
      | exact hg
      | simpa [Around.deeper] using hg
  obtain ⟨t, ht0, hq⟩ := hbody cdv A outer s H vs Q E hg' (hr.deeper _) hsp
  have ht := ht0.nox
  have I : Inv (cxOf CX0 P w K mg base N qual (defScope st) f cdv A outer s H E) [] (start N vs) H s1 :=
    inv_start S hr.hd e0 hl r x
  refine wpAny_mono (ht.run [] s1 (start N vs) H _ I hq) (fun fl s' hs => ?_) fun e s' hs => hs
  have fin : ∀ {σ' : St} {H' : Hp} {v : V} {u : Value},
      Inv (cxOf CX0 P w K mg base N qual (defScope st) f cdv A outer s H E) [] σ' H' s' → RelV v u → Q v H' →
      CE outer P w H s Q u s' := fun J rv q => ⟨_, _, J.os, J.bare, J.base, J.hok, rv, q⟩
  cases fl with
  | ret u =>
    obtain ⟨v, σ', H', J, rv, q⟩ := hs
    exact fin J rv q
  | next =>
    obtain ⟨σ', H', J, q⟩ := hs
    exact fin (v := V.non) (u := Value.none) J rfl q
  | brk =>
    obtain ⟨_, _, _, q⟩ := hs
    exact False.elim q
  | cont =>
    obtain ⟨_, _, _, q⟩ := hs
    exact False.elim q
end
section
variable {X : Cx} {CX : CXT} {k : Nat} {f : Addr} {fd : FuncData} {ps : List Str} {sp : Sp} {dvs : List V}
  {ds : List Value} {E : XK} {x : Str} {p pos : Pos} {e : Expr} {es : List Expr} {t : TA}
theorem run_fnG {pins : List (Addr × Obj)} {σ : St} {H : Hp} {s : Shared} {Q : VK} {us : List Value} {vs : List V}
    (F : FnG X.prog X.w X.K X.mg X.base CX k f fd ps sp) (hA : X.A.guards = some []) (hr : Room k X.A)
    (hb : Binds X.K fd ps ds) (hd : Vals dvs ds) (hx : Passes CX X E) (I : Inv X pins σ H s) (r : Vals vs us)
    (h : sp (vs ++ dvs) H Q E) : wpAny (model X.prog X.w) X.A (call (.ref f) us) (EP X pins σ Q) X.xe s := by
  have r2 : Vals (vs ++ dvs) (us ++ ds) := r.append hd
  have hl : (us ++ ds).length = ps.length := by
    rw [← r2.length]
    exact F.len _ _ _ _ h
  refine wpAny_call (codeAny_mono (F.run X.A X.stack s H ⟨us, []⟩ (us ++ ds) (vs ++ dvs) Q E hA hr I.env0
    (hb s us I.kIn hl) r2 h) fun rr s' z => ?_)
  cases rr with
  | error e => exact hx pins σ H s e s' I z
  | ok fl =>
    cases fl with
    | ret u => exact I.after z
    | next => exact False.elim z
    | brk => exact False.elim z
    | cont => exact False.elim z
theorem pe_callG (F : FnG X.prog X.w X.K X.mg X.base CX k f fd ps sp) (hA : X.A.guards = some []) (hr : Room k X.A)
    (hg : Gl X x) (hm : X.mg x = some (.ref f)) (hk : PySem.W.keepIn X.K (.ref f) = true) (hb : Binds X.K fd ps ds)
    (hd : Vals dvs ds) (hx : Passes CX X E) (ha : PA X (e :: es) t)
    (hdb : (x == ("__debug__" : Str)) = false := by decide)
    (he : starEach (e :: es) X.env = (false, eval e X.env) :: starEach es X.env := by rfl)
    (hpl : (backTo pos (starEach es X.env)).any (·.1) = false := by rfl) :
    PE X (.Call (.Name x p) (e :: es) [] pos) (tCall sp dvs E t) := by
  refine ⟨fun pins s σ H Q I h => ?_⟩
  refine wpAny_Call_Name_kw (ld_glob I hg hm ?_ hdb)
  refine PySem.W.callWith_K (h₀ := X.base) I.ok.mod.kin hk
    (thn (ha.run pos pins s σ H _ I h) fun us s1 ⟨vs, H1, I1, r, q⟩ => ⟨I1.kIn, ?_⟩) he hpl
  exact run_fnG F hA hr hb hd hx I1 r q
/-- repr(x): x data -/
def rShow (K : PySem.W.Frag) : List V → Hp → VK → Prop := fun xs H Q =>
  ∃ (a : Addr) (d : PyData), xs = [.ref a] ∧ Dp K H (.ref a) d ∧ d.showable = true ∧ d.hasDict = false ∧
    d.depth ≤ 60 ∧ d.shown.length ≤ sizeLine ∧ Q (.str d.shown) H
theorem call_rep (hA : X.A.guards = some []) (hu : X.A.units + 64 < cLine) :
    CallR X (.builtin "repr") (rShow X.K) := by
  intro pins s σ H xs us Q I r h
  obtain ⟨a, d, rfl, hd, hs, hn, hdp, hz, q⟩ := h
  obtain ⟨u, rfl, ru⟩ := vals1 r
  obtain rfl : u = Value.ref a := ru
  obtain ⟨as, rd⟩ := Dp.reads I d _ _ hd rfl
  exact repr_of_reads' rd hs (fun z => by rw [hn] at z; cases z) hA (by omega) (fun _ _ e => e)
    (fun h' u tk keep => ⟨.str d.shown, H, I.kept keep, ⟨u, rfl⟩, q⟩) hz
end
/-- the law's call, from such a promise -/
theorem law_callG {P : Program} {w : World} {K : PySem.W.Frag} {mg mb : Str → Option Value} {k : Nat} {fa a : Addr}
    {fd : FuncData} {x : Str} {sp : Sp} {s1 : Shared} {vs : List Value} {ns : List Int}
    (KX : K.In s1.heap) (hns : s1.heap.Ns mainGlobals mg) (hb : s1.heap.Ns builtinsNs mb)
    (hbb : ∀ y : Str, y ≠ "__name__" → mb y = bootBuiltins y) (hlim : s1.heap.NoLimit) (hg : s1.gens = #[])
    (ha : s1.heap.get? a = some { cls := .type "list", data := .seq vs.toArray }) (hi : IntsAre vs ns)
    (hl : ns.length ≤ sizeLine) (hr : Room k callerA)
    (F : ∀ base : Heap, K.In base → base.Ns mainGlobals mg → FnG P w K mg base CX0 k fa fd [x] sp)
    (hbind : ∀ (s : Shared) (u : Value), BindsTo s fd ⟨[u], []⟩ [(x, u)])
    (hsp : ∀ H : Hp, Only H → SqL K H a (ns.map V.int) → sp [.ref a] H (fun v _ => v = .bl true) E0) :
    codeAny (model P w) callerA (.call (.ref fa) ⟨[.ref a], []⟩)
      (fun r s' => r = .ok (.ret (.bool true)) ∧ OldK s1.heap s'.heap ∧ s'.os = s1.os ∧ AllBare s'.gens) s1 := by
  have rv := vals_ints hi
  have lenV := hi.length
  have core : ∀ H : Hp, Only H → SqL K H a (ns.map V.int) → HOk P w H s1.heap → (∀ b, H b ≠ none → b = a) →
      (H a ≠ none → K.lookup a = none) → codeAny (model P w) callerA (.call (.ref fa) ⟨[.ref a], []⟩)
        (fun r s' => r = .ok (.ret (.bool true)) ∧ OldK s1.heap s'.heap ∧ s'.os = s1.os ∧ AllBare s'.gens) s1 := by
    intro H hO hS hok hA hK
    have atA : ∀ {b : Addr} {u : HO}, H b = some u → b = a := fun {b u} q => hA b (by rw [q]; simp)
    have noA : ∀ {b : Addr} {o : Obj} {es : Array DictEntry} {ep : Nat}, s1.heap.get? b = some o →
        o.data = .dict es ep → H b = none := by
      intro b o es ep e d
      cases q : H b with
      | none => rfl
      | some u =>
        obtain rfl := atA q
        rw [ha] at e
        cases e
        have d' : Data.seq vs.toArray _ = Data.dict es ep := d
        cases d'
    have nsK : ∀ {b : Addr} {m : Str → Option Value}, s1.heap.Ns b m → (hidT s1.heap H).Ns b m := by
      rintro b m ⟨o, es, ep, e, d, r⟩
      exact ⟨o, es, ep, hidT_get e (noA e d), d, r⟩
    have hKb : K.In (hidT s1.heap H) := by
      intro b o e
      refine hidT_get (KX b o e) ?_
      cases q : H b with
      | none => rfl
      | some u =>
        obtain rfl := atA q
        rw [hK (by rw [q]; simp)] at e
        cases e
    have lim' : (hidT s1.heap H).NoLimit := by
      obtain ⟨mc, h1, h2⟩ := hlim
      exact ⟨mc, nsK h1, h2⟩
    have hM : Mod K mg (hidT s1.heap H) := ⟨hKb, nsK hns, ⟨mb, nsK hb, hbb⟩, lim'⟩
    have e0 : Env0 P w K mg (hidT s1.heap H) callerA [] s1 H :=
      ⟨rfl, hM, fun b o e => of_hidT e, Nat.le_of_eq (hidT_size _ _), trivial,
        fun b hb => absurd (show b ∈ ([] : List Addr) from hb) (by simp), hok, .of_eq hg⟩
    refine codeAny_mono ((F _ hKb (nsK hns)).run callerA [] s1 H ⟨[.ref a], []⟩ [.ref a] [.ref a] _ _ rfl hr e0
      (hbind s1 (.ref a)) (.cons rfl .nil) (hsp H hO hS)) fun r s' h => ?_
    cases r with
    | error e => exact h.elim
    | ok fl =>
      cases fl with
      | next => exact False.elim h
      | brk => exact False.elim h
      | cont => exact False.elim h
      | ret u =>
        obtain ⟨v, H', os, bare, un, hok', r', q⟩ := h
        have q' : v = .bl true := q
        subst q'
        obtain rfl : u = Value.bool true := r'
        refine ⟨rfl, OldK.of_keep fun b o e => ?_, os, bare⟩
        have nil : b ∉ frs [] := fun z => absurd (show b ∈ ([] : List Addr) from z) (by simp)
        cases q : H b with
        | none => exact un.keep b o e q nil (by simp)
        | some u =>
          rcases hO b with z | ⟨ob, xs, z⟩
          · rw [q] at z
            cases z
          · have z2 := un.frzs b ob _ z
            obtain ⟨e1, _⟩ := hok b _ z
            obtain ⟨e2, _⟩ := hok' b _ z2
            rw [e] at e1
            cases e1
            exact e2
  cases hk : K.lookup a with
  | some o =>
    have e := KX a o hk
    rw [ha] at e
    cases e
    have ok0 : HOk P w (fun _ => none) s1.heap := fun b u z => by
      have z' : (none : Option HO) = some u := z
      cases z'
    refine core (fun _ => none) (fun _ => .inl rfl) (.inr ⟨_, vs.toArray, _, hk, rfl, rfl, rfl, ?_, ?_⟩) ok0
      (fun b z => absurd rfl z) fun z => absurd rfl z
    · rw [List.size_toArray, lenV]
      exact hl
    · simpa using rv
  | none =>
    let o1 : Obj := { cls := .type "list", data := .seq vs.toArray }
    refine core (fun b => if b = a then some (.frz o1 (.lst (ns.map V.int))) else none) (fun b => ?_)
      (.inl (.inr ⟨o1, if_pos rfl⟩)) (fun b u z => ?_) (fun b z => ?_) fun _ => hk
    · by_cases hb : b = a
      · exact .inr ⟨_, _, if_pos hb⟩
      · exact .inl (if_neg hb)
    · by_cases hb : b = a
      · have z' := (if_pos hb).symm.trans z
        cases z'
        subst hb
        exact ⟨ha, by rw [List.length_map]; exact hl, vs, _, rv, ha⟩
      · have z' := (if_neg hb).symm.trans z
        cases z'
    · by_cases hb : b = a
      · exact hb
      · exact absurd (if_neg hb) z
theorem walk_ofG {l : PySem.W.OpenLaw} {n k : Nat} {q : Program} {loose : List Str}
    {XP : (Str → Option Value) → Heap → Prop} {YP : World → Heap → Prop} {d : DefRec} {K : Params → PySem.W.Frag}
    {sp : PySem.W.Frag → Sp} {x : Str} (hn : l.most = some n) (hn2 : n ≤ sizeLine) (hdf : d.params.defaults = [])
    (hr : Room k callerA) (hY : ∀ (w : World) (h : Heap), YP w h → (K w.params).In h)
    (F : ∀ (w : World) (mg : Str → Option Value) (fa : Addr) (h : Heap), (K w.params).In h → h.Ns mainGlobals mg →
      mg d.name = some (.ref fa) → ∃ fd : FuncData, (∀ (s : Shared) (u : Value), BindsTo s fd ⟨[u], []⟩ [(x, u)]) ∧
        ∀ base : Heap, (K w.params).In base → base.Ns mainGlobals mg →
          FnG l.prog w (K w.params) mg base CX0 k fa fd [x] (sp (K w.params)))
    (hsp : ∀ (K : PySem.W.Frag) (H : Hp) (a : Addr) (ns : List Int), ns.length ≤ n → Only H →
      SqL K H a (ns.map V.int) → sp K [.ref a] H (fun v _ => v = .bl true) E0) :
    PySem.W.WalkO q loose XP YP l.row.toRowW d [] (fun f vs => PySem.call f vs) := by
  refine Att.attach_call hn hdf fun w s0 s1 mg mb fa o pm cd doc a vs ns G Y ho hd hcd hmg hobj hints hlen hg => ?_
  have KX := hY w _ Y
  obtain ⟨fd, hb, hF⟩ := F w mg fa _ KX G.T.g hmg
  exact law_callG KX G.T.g G.T.b G.T.builtins G.T.nolimit hg hobj hints (Nat.le_trans hlen hn2) hr hF hb
    fun H hO hS => hsp (K w.params) H a ns hlen hO hS
end L2

/-! own rules 5: defs by name -/
namespace L2
open PySem PySem.Spec PyProof.Rows
/-- the address of what a module's name holds -/
def adr (mg : Str → Option Value) (x : Str) : Addr := match mg x with
  | some (.ref a) => a
  | _ => 0
theorem adr_of {mg : Str → Option Value} {x : Str} {a : Addr} (h : mg x = some (.ref a)) : adr mg x = a := by
  unfold adr
  rw [h]
/-- a def of the top, by its name -/
def OwnD (K : PySem.W.Frag) (mg : Str → Option Value) (x : Str) (st : Stmt) (ps : List Str) : Prop :=
  ∃ f fd, mg x = some (.ref f) ∧ Fun K x x st f fd ∧ Binds K fd ps []
/-- what a def of the top keeps -/
def Kp (P : Program) (w : World) (K : PySem.W.Frag) (mg : Str → Option Value) (base : Heap) (k : Nat) (x : Str)
    (ps : List Str) (sp : Sp) : Prop :=
  ∃ f fd, mg x = some (.ref f) ∧ PySem.W.keepIn K (.ref f) = true ∧ Binds K fd ps [] ∧
    FnG P w K mg base CX0 k f fd ps sp
section
variable {P : Program} {w : World} {K : PySem.W.Frag} {mg : Str → Option Value} {base : Heap}
theorem OwnD.ok {x : Str} {st : Stmt} {N ps : List Str} {k : Nat} {sp : Sp} (O : OwnD K mg x st ps)
    (S : FnScope N ps (defScope st)) (len : ∀ vs H Q E, sp vs H Q E → vs.length = ps.length)
    (hbody : ∀ (f : Addr) (cdv : Value) (A : Around) (outer : List Env) (s : Shared) (H : Hp) (vs : List V) (Q : VK)
      (E : XK), (A.deeper (envOfC x (defScope st) s.heap.objs.size f cdv)).guards = some [] →
      Room k (A.deeper (envOfC x (defScope st) s.heap.objs.size f cdv)) → sp vs H Q E →
      ∃ t, PSs (cxOf CX0 P w K mg base N x (defScope st) f cdv A outer s H E).nox (defBody st) t ∧
        t { nx := fun _ H' => Q .non H', rt := Q } (start N vs) H) :
    Kp P w K mg base (k + 1) x ps sp := by
  obtain ⟨f, fd, hm, F, b⟩ := O
  exact ⟨f, fd, hm, F.kp, b, F.okG S len fun cdv A outer s H vs Q E hg hr h => hbody f cdv A outer s H vs Q E hg hr h⟩
theorem own_mk {h : Heap} {x : Str} {st : Stmt} {ps : List Str} {f : Addr} {od an : Option Addr}
    {sl : Array (Option Value)} {oc kV dc pm cd ct : Value} (X : K.In h) (G : h.Ns mainGlobals mg)
    (a : PySem.W.nsIn K mainGlobals x = some (some (.ref f)))
    (l : K.lookup f = some ⟨oc, od, .func (PySem.W.fnOf x x (defArgs st) (defBody st) (defScope st) .none kV dc pm an cd ct), sl⟩)
    (c : PySem.W.codeIn K cd x = true) (k : PySem.W.keepIn K (.ref f) = true)
    (b : ∀ (kV doc pm : Value) (an : Option Addr) (cdv ct : Value) (us : List Value), us.length = ps.length →
      bindArgs (PySem.W.fnOf x x (defArgs st) (defBody st) (defScope st) .none kV doc pm an cdv ct) ⟨us, []⟩ =
        pure (ps.zip us)) : OwnD K mg x st ps :=
  have F := fun_mk (st := st) l c k
  ⟨f, _, PySem.W.mg_of X G a, F, F.binds b⟩
end
section
variable {X : Cx} {k j : Nat} {ps : List Str} {sp : Sp} {x : Str} {p pos : Pos} {e : Expr} {es : List Expr} {t : TA}
/-- f(e, ..) by what f keeps -/
theorem pe_kp (F : Kp X.prog X.w X.K X.mg X.base k x ps sp) (hA : X.A.guards = some []) (hr : Room j X.A)
    (hg : Gl X x) (ha : PA X (e :: es) t) (hj : k ≤ j := by decide)
    (hdb : (x == ("__debug__" : Str)) = false := by decide)
    (he : starEach (e :: es) X.env = (false, eval e X.env) :: starEach es X.env := by rfl)
    (hpl : (backTo pos (starEach es X.env)).any (·.1) = false := by rfl)
    (hx : Passes CX0 X E0 := by exact pass0) :
    PE X (.Call (.Name x p) (e :: es) [] pos) (tCall sp [] E0 t) := by
  obtain ⟨f, fd, hm, hk, hb, G⟩ := F
  exact pe_callG G hA (hr.mono hj) hg hm hk hb .nil hx ha hdb he hpl
end
end L2

/-! own rules 6: weaker readings, heaps -/
namespace L2
open PySem PySem.Spec PyProof.Rows
section
variable {X : Cx}
theorem fmod_bd {i j : Int} (h : 0 < j) : 0 ≤ i.fmod j ∧ i.fmod j < j := by
  rw [Int.fmod_eq_emod_of_nonneg _ (by omega)]
  exact ⟨Int.emod_nonneg _ (by omega), Int.emod_lt_of_pos _ h⟩
/-- a % b, some number below b -/
def rModW : R2 := fun x y H Q => ∃ i j, x = .int i ∧ y = .int j ∧ 0 < j ∧ ∀ r, 0 ≤ r → r < j → Q (.int r) H
theorem op_modW : OpR X (binaryOp .Mod) rModW := by
  intro pins s σ H x y v u Q I rx ry h
  obtain ⟨i, j, ex, ey, hj, h⟩ := h
  exact op_modN pins s σ H x y v u Q I rx ry ⟨i, j, ex, ey, by omega, h _ (fmod_bd hj).1 (fmod_bd hj).2⟩
/-- a // b, the quotient with its rest -/
def rDivW : R2 := fun x y H Q => ∃ i j, x = .int i ∧ y = .int j ∧ 0 < j ∧ j < 1073741824 ∧
  ∀ q r, i = j * q + r → 0 ≤ r → r < j → Q (.int q) H
theorem op_divW : OpR X (binaryOp .FloorDiv) rDivW := by
  intro pins s σ H x y v u Q I rx ry h
  obtain ⟨i, j, ex, ey, hj, h2, h⟩ := h
  have b := fmod_bd (i := i) hj
  refine op_fdivN pins s σ H x y v u Q I rx ry ⟨i, j, ex, ey, ⟨by omega, by omega⟩, h _ _ ?_ b.1 b.2⟩
  have e := Int.fmod_add_mul_fdiv i j
  omega
/-- a ** b, some number -/
def rPowW : R2 := fun x y H Q => ∃ i j, x = .int i ∧ y = .int j ∧ 0 ≤ j ∧ j ≤ 1000000 ∧ i.natAbs < 2 ^ 64 ∧
  ∀ z, Q (.int z) H
theorem op_powW : OpR X (binaryOp .Pow) rPowW := by
  intro pins s σ H x y v u Q I rx ry h
  obtain ⟨i, j, ex, ey, h1, h2, h3, h⟩ := h
  exact op_pow pins s σ H x y v u Q I rx ry ⟨i, j, ex, ey, ⟨h1, h2, h3⟩, h _⟩
/-- a * b, as a letter with its equation -/
def rMulW : R2 := fun x y H Q => ∃ i j, x = .int i ∧ y = .int j ∧ ((-(2 ^ 64) < i ∧ i < 2 ^ 64) ∨ (-(2 ^ 64) < j ∧ j < 2 ^ 64)) ∧
  ∀ z, z = i * j → Q (.int z) H
theorem op_mulW' : OpR X (binaryOp .Mult) rMulW := by
  intro pins s σ H x y v u Q I rx ry h
  obtain ⟨i, j, ex, ey, h1, h⟩ := h
  exact op_mul pins s σ H x y v u Q I rx ry ⟨i, j, ex, ey, h1, h _ rfl⟩
/-- int(n), n an int -/
theorem call_intI : CallR X (.type "int") (fun xs H Q => ∃ i, xs = [.int i] ∧ Q (.int i) H) := by
  intro pins s σ H xs us Q I r h
  obtain ⟨i, e, h⟩ := h
  exact call_int1 pins s σ H xs us Q I r (.inl ⟨i, e, h⟩)
/-- int(b), b a bool: 0 or 1 -/
theorem call_intB : CallR X (.type "int") (fun xs H Q => ∃ b, xs = [.bl b] ∧ ∀ i, 0 ≤ i → i ≤ 1 → Q (.int i) H) := by
  intro pins s σ H xs us Q I r h
  obtain ⟨b, e, h⟩ := h
  refine call_int1 pins s σ H xs us Q I r (.inr ⟨b, e, h _ ?_ ?_⟩)
  · cases b <;> decide
  · cases b <;> decide
end
theorem upd_new {H : Hp} {p q : Addr} {o u : HO} (hn : H p = none) (h : H q = some o) : upd H p u q = some o :=
  (upd_ne (ne_of_none h hn)).trans h
theorem upd_oth {H : Hp} {p q : Addr} {o u : HO} (hn : q ≠ p) (h : H q = some o) : upd H p u q = some o :=
  (upd_ne hn).trans h
theorem sq_new {K : PySem.W.Frag} {H : Hp} {p c : Addr} {u : HO} {xs : List V} (hn : H p = none) (h : SqL K H c xs) :
    SqL K (upd H p u) c xs := by
  rcases h with (h | ⟨o, h⟩) | h
  · exact .inl (.inl (upd_new hn h))
  · exact .inl (.inr ⟨o, upd_new hn h⟩)
  · exact .inr h
theorem sq_oth {K : PySem.W.Frag} {H : Hp} {p c : Addr} {u : HO} {xs : List V} (hn : c ≠ p) (h : SqL K H c xs) :
    SqL K (upd H p u) c xs := by
  rcases h with (h | ⟨o, h⟩) | h
  · exact .inl (.inl (upd_oth hn h))
  · exact .inl (.inr ⟨o, upd_oth hn h⟩)
  · exact .inr h
theorem Same.new {H : Hp} {p : Addr} {u : HO} (hn : H p = none) : Same H (upd H p u) := fun b o e => upd_new hn e
theorem at_map {ns : List Int} {r : Int} (h0 : 0 ≤ r) (h1 : r < (ns.length : Int)) :
    ∃ x, atI (ns.map V.int) r = some (.int x) := by
  have hl : r.toNat < ns.length := by omega
  refine ⟨ns[r.toNat], ?_⟩
  unfold atI ixN
  rw [List.length_map, if_pos h0, if_pos h1]
  simp [List.getElem?_eq_getElem hl]
theorem at_in {α : Type} {xs : List α} {r : Int} (h0 : 0 ≤ r) (h1 : r < (xs.length : Int)) :
    ∃ x, atI xs r = some x ∧ x ∈ xs := by
  have hl : r.toNat < xs.length := by omega
  refine ⟨xs[r.toNat], ?_, List.getElem_mem _⟩
  unfold atI ixN
  rw [if_pos h0, if_pos h1]
  simp [List.getElem?_eq_getElem hl]
/-- data of a list of ints -/
theorem dp_ints {K : PySem.W.Frag} {H : Hp} : ∀ ns : List Int, DpAll K H (ns.map V.int) (ns.map PyData.int)
  | [] => .nil
  | n :: ns => .cons (.int n) (dp_ints ns)
/-- a statement and what follows it, met at a word -/
def tMid (t u : TS) : TS := fun D σ H => ∃ W : St → Hp → Prop, t { D with nx := W } σ H ∧ ∀ σ1 H1, W σ1 H1 → u D σ1 H1
theorem pss_mid {X : Cx} {st : Stmt} {rest : List Stmt} {t u : TS} (a : PS X st t) (b : PSs X rest u) :
    PSs X (st :: rest) (tMid t u) := by
  constructor
  intro pins s σ H D I h
  obtain ⟨W, hw, hu⟩ := h
  refine wpAny_execs_cons (thn (a.run pins s σ H { D with nx := W } I hw) fun f s1 z => ?_)
  cases f with
  | next =>
    obtain ⟨σ1, H1, I1, z⟩ := z
    exact b.run pins s1 σ1 H1 D I1 (hu σ1 H1 z)
  | ret v => exact z
  | brk => exact z
  | cont => exact z
theorem len_lst {K : PySem.W.Frag} {H : Hp} {c : Addr} {xs : List V} (h : H c = some (.lst xs)) :
    LenV K (.ref c) H xs.length := .inl ⟨xs, SqL.of h, rfl⟩
theorem len_tup {K : PySem.W.Frag} {H : Hp} {c : Addr} {xs : List V} (h : H c = some (.tup xs)) :
    LenV K (.ref c) H xs.length := .inr ⟨xs, SqT.of h, rfl⟩
theorem len_sq {K : PySem.W.Frag} {H : Hp} {c : Addr} {xs : List V} (h : SqL K H c xs) :
    LenV K (.ref c) H xs.length := .inl ⟨xs, h, rfl⟩
end L2

/-! own rules 7: the errors of a package as values -/
namespace L2
open PySem PySem.Spec PyProof.Rows
theorem PE.imp {X : Cx} {e : Expr} {t t' : TE} (h : PE X e t) (k : ∀ σ H Q, t' σ H Q → t σ H Q) : PE X e t' :=
  ⟨fun pins s σ H Q I q => h.run pins s σ H Q I (k σ H Q q)⟩
/-- all but what stands at p is as it was -/
def But (p : Addr) (H H' : Hp) : Prop := ∀ b, b ≠ p → ∀ o, H b = some o → H' b = some o
theorem But.refl {p : Addr} {H : Hp} : But p H H := fun _ _ _ e => e
theorem But.trans {p : Addr} {H H1 H2 : Hp} (a : But p H H1) (b : But p H1 H2) : But p H H2 :=
  fun c hc o e => b c hc o (a c hc o e)
theorem Same.but {p : Addr} {H H' : Hp} (h : Same H H') : But p H H' := fun b _ o e => h b o e
/-- an error object, its fields the last one first -/
def XV (H : Hp) (a C : Addr) (fs : List (Str × V)) : Prop :=
  (fs = [] ∧ H a = some (exo a C none)) ∨ ∃ dx, H a = some (exo a C (some dx)) ∧ H dx = some (exd dx fs)
theorem XV.same {H H' : Hp} {a C : Addr} {fs : List (Str × V)} (h : XV H a C fs) (s : Same H H') : XV H' a C fs := by
  rcases h with ⟨e, h⟩ | ⟨dx, h, g⟩
  · exact .inl ⟨e, s _ _ h⟩
  · exact .inr ⟨dx, s _ _ h, s _ _ g⟩
/-- what __init__ keeps -/
def spIni (K : PySem.W.Frag) (C : Addr) (fs : List Str) : Sp := fun vs H Q _ => ∃ (a : Addr) (xs : List V),
  vs = .ref a :: xs ∧ xs.length = fs.length ∧ H a = some (exo a C none) ∧
  ∀ (H' : Hp), But a H H' → XV H' a C (fs.zip xs).reverse → Q .non H'
/-- an error class of the top, by its name -/
structure ErrK (K : PySem.W.Frag) (mg : Str → Option Value) (x : Str) (fs : List Str) : Prop where
  mgx : mg x = some (.ref (adr mg x))
  T : OexC K (adr mg x)
  X : XCl K (adr mg x)
  na : ∀ f ∈ fs, PySem.W.findIn K (.ref (adr mg x)) f = some none
/-- its __init__ -/
def IniK (K : PySem.W.Frag) (mg : Str → Option Value) (x q : Str) (st : Stmt) : Prop :=
  ∃ fI fd, XMk K (adr mg x) fI ∧ Fun K "__init__" q st fI fd
/-- how keywords bind, the last one first -/
def KwR (fd : FuncData) (fs : List Str) : Prop := ∀ (s : Shared) (u : Value) (ws : List Value), ws.length = fs.length →
  BindsTo s fd ⟨[u], fs.reverse.zip ws⟩ ((("self" : Str) :: fs).zip (u :: ws.reverse))
/-- what making one keeps -/
def MkE (P : Program) (w : World) (K : PySem.W.Frag) (mg : Str → Option Value) (base : Heap) (x : Str) (fs : List Str) :
    Prop := mg x = some (.ref (adr mg x)) ∧ ∃ fI fd, XMk K (adr mg x) fI ∧ Binds K fd ("self" :: fs) [] ∧ KwR fd fs ∧
  FnOk P w K mg base CX0 1 fI fd ("self" :: fs) (spIni K (adr mg x) fs)
section
variable {P : Program} {w : World} {K : PySem.W.Frag} {mg : Str → Option Value} {base : Heap}
theorem ini1 {x q f : Str} {st : Stmt} {fI : Addr} {fd : FuncData} (E : ErrK K mg x [f])
    (F : Fun K "__init__" q st fI fd) (S : FnScope ["self", f] ["self", f] (defScope st))
    (hb : ∀ (cdv : Value) (A : Around) (outer : List Env) (s : Shared) (H : Hp) (E : XK),
      PSs (cxOf CX0 P w K mg base ["self", f] q (defScope st) fI cdv A outer s H E).nox (defBody st)
        (tOst K f (tVar 0) (tVar 1))) :
    FnOk P w K mg base CX0 1 fI fd ["self", f] (spIni K (adr mg x) [f]) := by
  refine F.ok S (fun vs H Q E h => ?_) (fun cdv A outer s H vs Q E' hr h => ?_)
  · obtain ⟨a, xs, rfl, l, _⟩ := h
    simp only [List.length_cons] at l ⊢
    omega
  · obtain ⟨a, xs, rfl, l, ha, k⟩ := h
    obtain ⟨v, rfl⟩ : ∃ v, xs = [v] := by
      match xs, l with
      | [v], _ => exact ⟨v, rfl⟩
    refine ⟨_, hb cdv A outer s H E', ?_⟩
    refine ⟨_, rfl, _, rfl, a, _, rfl, E.T, E.na f (by simp), .inl ⟨ha, fun dx nd ne => ?_⟩⟩
    refine k _ (fun b hb o e => upd_oth hb (upd_new nd e)) (.inr ⟨dx, upd_same, ?_⟩)
    exact (upd_ne ne).trans upd_same
theorem ini2 {x q f g : Str} {st : Stmt} {fI : Addr} {fd : FuncData} (E : ErrK K mg x [f, g])
    (F : Fun K "__init__" q st fI fd) (S : FnScope ["self", f, g] ["self", f, g] (defScope st))
    (hb : ∀ (cdv : Value) (A : Around) (outer : List Env) (s : Shared) (H : Hp) (E : XK),
      PSs (cxOf CX0 P w K mg base ["self", f, g] q (defScope st) fI cdv A outer s H E).nox (defBody st)
        (tSeq (tOst K f (tVar 0) (tVar 1)) (tOst K g (tVar 0) (tVar 2)))) :
    FnOk P w K mg base CX0 1 fI fd ["self", f, g] (spIni K (adr mg x) [f, g]) := by
  refine F.ok S (fun vs H Q E h => ?_) (fun cdv A outer s H vs Q E' hr h => ?_)
  · obtain ⟨a, xs, rfl, l, _⟩ := h
    simp only [List.length_cons] at l ⊢
    omega
  · obtain ⟨a, xs, rfl, l, ha, k⟩ := h
    obtain ⟨v, u, rfl⟩ : ∃ v u, xs = [v, u] := by
      match xs, l with
      | [v, u], _ => exact ⟨v, u, rfl⟩
    refine ⟨_, hb cdv A outer s H E', ?_⟩
    refine ⟨_, rfl, _, rfl, a, _, rfl, E.T, E.na f (by simp), .inl ⟨ha, fun dx nd ne => ?_⟩⟩
    have ha2 : (upd (upd H dx (exd dx [(f, v)])) a (exo a (adr mg x) (some dx))) a = some (exo a (adr mg x) (some dx)) :=
      upd_same
    have hd2 : (upd (upd H dx (exd dx [(f, v)])) a (exo a (adr mg x) (some dx))) dx = some (exd dx [(f, v)]) :=
      (upd_ne ne).trans upd_same
    refine ⟨_, rfl, _, rfl, a, _, rfl, E.T, E.na g (by simp), .inr ⟨dx, _, ha2, hd2, (by show 1 ≤ 900; decide), ?_⟩⟩
    refine k _ (fun b hb o e => ?_) (.inr ⟨dx, (upd_ne ne.symm).trans ha2, upd_same⟩)
    exact upd_oth (ne_of_none e nd) (upd_oth hb (upd_new nd e))
end
/-- C(..): a new error object -/
def tErr (C : Addr) (fs : List Str) (gv : List V → List V) (ta : TA) : TE := fun σ H Q => ta σ H fun xs H1 =>
  xs.length = fs.length ∧ fs.length ≤ 900 ∧ ∀ (a : Addr) (H' : Hp), H1 a = none → Same H1 H' →
    XV H' a C (fs.zip (gv xs)).reverse → Q (.ref a) H'
theorem tErr_mk {K : PySem.W.Frag} {C : Addr} {fs : List Str} {gv : List V → List V} {H1 : Hp} {Q : VK} {xs : List V}
    (hg : (gv xs).length = xs.length)
    (h : xs.length = fs.length ∧ fs.length ≤ 900 ∧ ∀ (a : Addr) (H' : Hp), H1 a = none → Same H1 H' →
      XV H' a C (fs.zip (gv xs)).reverse → Q (.ref a) H') :
    xs.length ≤ 1000 ∧ ∀ a, H1 a = none → spIni K C fs (.ref a :: gv xs) (upd H1 a (exo a C none))
      (fun v H2 => v = .non ∧ Q (.ref a) H2) E0 := by
  obtain ⟨l, l9, k⟩ := h
  refine ⟨by omega, fun a hn => ⟨a, gv xs, rfl, by omega, upd_same, fun H' hb hx => ⟨rfl, k a H' hn (fun b o e => ?_) hx⟩⟩⟩
  exact hb b (ne_of_none e hn) o (upd_new hn e)
section
variable {X : Cx} {x : Str} {p pos : Pos} {e : Expr} {es : List Expr} {ta : TA} {fs : List Str} {j : Nat}
theorem pe_errP (M : MkE X.prog X.w X.K X.mg X.base x fs) (hr : Room j X.A) (hg : Gl X x) (ha : PA X (e :: es) ta)
    (hj : 2 ≤ j := by decide) (hdb : (x == ("__debug__" : Str)) = false := by decide)
    (he : starEach (e :: es) X.env = (false, eval e X.env) :: starEach es X.env := by rfl)
    (hpl : (backTo pos (starEach es X.env)).any (·.1) = false := by rfl) :
    PE X (.Call (.Name x p) (e :: es) [] pos) (tErr (adr X.mg x) fs id ta) := by
  obtain ⟨hm, fI, fd, XM, hb, _, F⟩ := M
  refine ⟨fun pins s σ H Q I h => ?_⟩
  refine wpAny_Call_Name_kw (ld_glob I hg hm ?_ hdb)
  refine PySem.W.callWith_K (h₀ := X.base) I.ok.mod.kin XM.T.kC
    (thn (ha.run pos pins s σ H _ I h) fun us s1 ⟨vs, H1, I1, r, q⟩ => ⟨I1.kIn, ?_⟩) he hpl
  have l := q.1
  obtain ⟨hl, q⟩ := tErr_mk (gv := id) (K := X.K) (Q := Q) rfl q
  have hz : us.length ≤ sizeLine := by
    rw [← Paired.length r, sizeLine_eq]
    omega
  refine run_mkx (us := us) XM F (hr.mono hj) I1 r (fun s' a kin => ?_) hz q
  have z := hb s' (Value.ref a :: us) kin (by
    rw [List.append_nil, List.length_cons, ← Paired.length r, l]
    rfl)
  rw [List.append_nil] at z
  exact z
theorem rel_rev {vs : List V} {us : List Value} (r : Vals vs us) : Vals vs.reverse us.reverse := by
  induction r with
  | nil => exact .nil
  | cons a b ih =>
    rw [List.reverse_cons, List.reverse_cons]
    exact ih.append (.cons a .nil)
theorem pe_errK {kws : List Keyword} {ks : List Str} (M : MkE X.prog X.w X.K X.mg X.base x fs) (hr : Room j X.A)
    (hg : Gl X x) (hkw : PK X kws ta) (hks : (backToKw pos (keywordEach kws X.env)).filterMap (·.1) = ks := by rfl)
    (hfs : ks = fs.reverse := by rfl) (hj : 2 ≤ j := by decide)
    (hall : (backToKw pos (keywordEach kws X.env)).all (·.1.isSome) = true := by rfl)
    (hdb : (x == ("__debug__" : Str)) = false := by decide)
    (hpl : ((backTo pos (starEach [] X.env)).any (·.1) ||
      (backToKw pos (keywordEach kws X.env)).any (·.1.isNone)) = false := by rfl) :
    PE X (.Call (.Name x p) [] kws pos) (tErr (adr X.mg x) fs List.reverse ta) := by
  obtain ⟨hm, fI, fd, XM, _, hb, F⟩ := M
  refine ⟨fun pins s σ H Q I h => ?_⟩
  refine wpAny_Call_Name_kw (ld_glob I hg hm ?_ hdb)
  refine PySem.W.callWith_KW0 (h₀ := X.base) I.ok.mod.kin XM.T.kC hall
    (thn (hkw.run pos pins s σ H _ I h) fun us s1 ⟨vs, H1, I1, r, q⟩ => ⟨I1.kIn, ?_⟩) hpl
  rw [hks, hfs]
  have l := q.1
  obtain ⟨hl, q⟩ := tErr_mk (gv := List.reverse) (K := X.K) (Q := Q) (by simp) q
  refine run_mkx (us := []) XM F (hr.mono hj) I1 (rel_rev r) (fun s' a kin => ?_) (Nat.zero_le _) q
  exact hb s' (Value.ref a) us (by rw [← Paired.length r, l])
/-- C(), a class without an own __init__ -/
theorem pe_err0 (E : ErrK X.K X.mg x [])
    (q : PySem.W.excIn X.K (adr X.mg x) PySem.HandSPX.veTail "ValueError.__new__" = true) (hg : Gl X x)
    (hdb : (x == ("__debug__" : Str)) = false := by decide) :
    PE X (.Call (.Name x p) [] [] pos) (tErr (adr X.mg x) [] id tNil) := by
  refine ⟨fun pins s σ H Q I h => ?_⟩
  refine wpAny_Call_Name_kw (ld_glob I hg E.mgx ?_ hdb)
  refine PySem.W.callWith_K0 I.kIn E.T.kC ?_
  show wpAny _ _ (call (.ref (adr X.mg x)) []) _ _ _
  obtain ⟨bm, N, nm, qn, bs, hdct, sn, sub, ab, col, dd, k0, k1, k2, k3, k5, mN, hC, hN, hni, T⟩ := exc_obj I.kIn q
  refine wpAny_call_exc_subT F.excBase_ValueError T hC hN hni (fun h' a hm => ?_) (Nat.zero_le _)
  have hn : H a = none := I.hok.gone hm.new
  obtain ⟨t, ht, _, _⟩ := hm.there
  obtain ⟨_, _, k⟩ := h
  exact ⟨.ref a, upd H a (exo a (adr X.mg x) none), I.laidN hm.keeps hm.new hn (exo_ok ht), rfl,
    k a _ hn (Same.new hn) (.inl ⟨rfl, upd_same⟩)⟩
end
end L2

/-! own rules 8: repr of data with dicts -/
namespace L2
open PySem PySem.Spec PyProof.Rows
def kd : Key → PyData
  | .inl i => .int i
  | .inr x => .str x
mutual
/-- what a value is as data; dicts by int and text keys -/
inductive Dq (K : PySem.W.Frag) (H : Hp) : V → PyData → Prop
  | non : Dq K H .non .none
  | bl (b : Bool) : Dq K H (.bl b) (.bool b)
  | int (i : Int) : Dq K H (.int i) (.int i)
  | str (x : Str) : Dq K H (.str x) (.str x)
  | lst {a : Addr} {xs : List V} {ds : List PyData} : SqL K H a xs → DqAll K H xs ds → Dq K H (.ref a) (.list ds)
  | tup {a : Addr} {xs : List V} {ds : List PyData} : SqT K H a xs → DqAll K H xs ds → Dq K H (.ref a) (.tuple ds)
  | dic {a : Addr} {kvs : List (Key × V)} {ds : List (PyData × PyData)} : H a = some (.dK kvs) → DqKv K H kvs ds →
      Dq K H (.ref a) (.dict ds)
inductive DqAll (K : PySem.W.Frag) (H : Hp) : List V → List PyData → Prop
  | nil : DqAll K H [] []
  | cons {v : V} {vs : List V} {d : PyData} {ds : List PyData} : Dq K H v d → DqAll K H vs ds →
      DqAll K H (v :: vs) (d :: ds)
inductive DqKv (K : PySem.W.Frag) (H : Hp) : List (Key × V) → List (PyData × PyData) → Prop
  | nil : DqKv K H [] []
  | cons {k : Key} {v : V} {vs : List (Key × V)} {d : PyData} {ds : List (PyData × PyData)} : Dq K H v d →
      DqKv K H vs ds → DqKv K H ((k, v) :: vs) ((kd k, d) :: ds)
end
section
variable {X : Cx} {pins : List (Addr × Obj)} {σ : St} {H : Hp} {s : Shared}
theorem rk_key {k : Key} {u : Value} (h : keyIs k u = true) (hs : (kd k).showable = true)
    (hz : (kd k).shown.length ≤ sizeLine) :
    Reads s.heap u (kd k) [] ∧ ∀ bs n, ReprK X.prog X.w bs s.heap n u (kd k).shown := by
  rcases keyIs_shape h with ⟨i, t, rfl, rfl⟩ | ⟨x, t, rfl, rfl⟩
  · refine ⟨Reads.int i t, fun bs n => ?_⟩
    simp only [kd, PyData.shown]
    exact .of_is (ReprIs.int t (by simpa [kd, PyData.showable] using hs)) _ _ _
  · refine ⟨Reads.str x t, fun bs n => ?_⟩
    simp only [kd, PyData.shown]
    exact .of_is (ReprIs.str x t (by simpa only [kd, PyData.shown] using hz)) _ _ _
theorem ram_app {h : Heap} {n m : Nat} {as bs : List Addr} (a : ReadAtMost h n as) (b : ReadAtMost h m bs) :
    ReadAtMost h (max n m) (as ++ bs) := by
  intro c hc
  rcases List.mem_append.mp hc with q | q
  · obtain ⟨d, xs, r, l⟩ := a c q
    exact ⟨d, xs, r, Nat.le_trans l (Nat.le_max_left _ _)⟩
  · obtain ⟨d, xs, r, l⟩ := b c q
    exact ⟨d, xs, r, Nat.le_trans l (Nat.le_max_right _ _)⟩
theorem ek_more {P : Program} {w : World} {h : Heap} {as bs : List Addr} {n m : Nat} (hs : ∀ b ∈ as, b ∈ bs) (hn : n ≤ m) :
    ∀ {es : List DictEntry} {ps : List Str}, ReprEntriesK P w as h n es ps → ReprEntriesK P w bs h m es ps
  | _, _, .nil => .nil
  | _, _, .cons a b c => .cons ((a.more hs).level_le hn) ((b.more hs).level_le hn) (ek_more hs hn c)
mutual
theorem Dq.rk (I : Inv X pins σ H s) : ∀ {v : V} {d : PyData}, Dq X.K H v d → ∀ u, RelV v u → d.showable = true →
    d.shown.length ≤ sizeLine → ∃ as bs, Reads s.heap u d as ∧ ReadAtMost s.heap d.depth bs ∧
      ReprK X.prog X.w bs s.heap d.depth u d.shown
  | _, _, .non, u, r, _, _ => by
    cases r
    exact ⟨_, [], Reads.none, fun _ h => (nomatch h), by simp only [PyData.shown]; exact .of_is ReprIs.none _ _ _⟩
  | _, _, .bl b, u, r, _, _ => by
    cases r
    exact ⟨_, [], Reads.bool b, fun _ h => (nomatch h), by simp only [PyData.shown]; exact .of_is (ReprIs.bool b) _ _ _⟩
  | _, _, .int i, u, r, hs, _ => by
    obtain ⟨t, rfl⟩ := r
    exact ⟨_, [], Reads.int i t, fun _ h => (nomatch h), by
      simp only [PyData.shown]
      exact .of_is (ReprIs.int t (by simpa [PyData.showable] using hs)) _ _ _⟩
  | _, _, .str x, u, r, _, hz => by
    obtain ⟨t, rfl⟩ := r
    exact ⟨_, [], Reads.str x t, fun _ h => (nomatch h), by
      simp only [PyData.shown]
      exact .of_is (ReprIs.str x t (by simpa only [PyData.shown] using hz)) _ _ _⟩
  | _, _, .lst (a := a) (ds := ds) hq ha, u, r, hs, hz => by
    cases r
    obtain ⟨its, rv, ⟨o, n, ho, hc, _, hd⟩, _⟩ := I.list hq
    have hz1 : (listText (PyData.shownAll ds)).length ≤ sizeLine := by simpa only [PyData.shown] using hz
    obtain ⟨as, bs, rd, hb, hk⟩ := DqAll.rk I ha its rv (by simpa [PyData.showable] using hs)
      fun t ht => Nat.le_trans (listText_mem_le ht) hz1
    have R : Reads s.heap (.ref a) (.list ds) _ := .list ho hc hd rd
    have nb : a ∉ bs := not_mem_of_deeper R (by simp only [PyData.depth]; omega) hb
    refine ⟨_, a :: bs, R, ReadAtMost.cons R (by simp only [PyData.depth]; omega) hb, ?_⟩
    simp only [PyData.depth, PyData.shown]
    cases its with
    | nil =>
      cases rd
      simp only [PyData.shownAll, listText_nil]
      exact ReprK.listEmpty ho hc hd
    | cons y l => exact ReprK.list ho hc hd nb (by simpa using hk.length_eq) fun i z e => hk.item i z (by simpa using e)
  | _, _, .tup (a := a) (ds := ds) hq ha, u, r, hs, hz => by
    cases r
    obtain ⟨its, rv, ⟨o, ho, hc, n, hd⟩, _⟩ := I.tuple hq
    have hz1 : (tupleText (PyData.shownAll ds)).length ≤ sizeLine := by simpa only [PyData.shown] using hz
    obtain ⟨as, bs, rd, hb, hk⟩ := DqAll.rk I ha its rv (by simpa [PyData.showable] using hs)
      fun t ht => Nat.le_trans (tupleText_mem_le ht) hz1
    have R : Reads s.heap (.ref a) (.tuple ds) _ := .tuple ho hc hd rd
    have nb : a ∉ bs := not_mem_of_deeper R (by simp only [PyData.depth]; omega) hb
    refine ⟨_, a :: bs, R, ReadAtMost.cons R (by simp only [PyData.depth]; omega) hb, ?_⟩
    simp only [PyData.depth, PyData.shown]
    exact ReprK.tuple ho hc hd nb hk
  | _, _, .dic (a := a) (kvs := kvs) (ds := ds) hq ha, u, r, hs, hz => by
    cases r
    obtain ⟨_, hsys, vs, rv, o, es, ep, ho, hc, hd, _, hp, _⟩ :=
      (show ObjOk X.prog X.w H s.heap a (.dK kvs) from I.hok a _ hq)
    have hz1 : (dictText (PyData.shownKv ds)).length ≤ sizeLine := by simpa only [PyData.shown] using hz
    obtain ⟨as, cs, bs, r1, r2, hb, hk⟩ := DqKv.rk I ha es.toList vs rv hp (by simpa [PyData.showable] using hs)
      fun t ht => Nat.le_trans (dictText_mem_le ht) hz1
    have R : Reads s.heap (.ref a) (.dict ds) _ := .dict ho hc.1 hd r1 r2
    have nb : a ∉ bs := not_mem_of_deeper R (by simp only [PyData.depth]; omega) hb
    refine ⟨_, a :: bs, R, ReadAtMost.cons R (by simp only [PyData.depth]; omega) hb, ?_⟩
    simp only [PyData.depth, PyData.shown]
    exact ReprK.dict ho hc.1 hd hsys nb hk
theorem DqAll.rk (I : Inv X pins σ H s) : ∀ {vs : List V} {ds : List PyData}, DqAll X.K H vs ds → ∀ us, Vals vs us →
    PyData.showableAll ds = true → (∀ t ∈ PyData.shownAll ds, t.length ≤ sizeLine) →
    ∃ as bs, ReadsAll s.heap us ds as ∧ ReadAtMost s.heap (PyData.depthAll ds) bs ∧
      ReprAllK X.prog X.w bs s.heap (PyData.depthAll ds) us (PyData.shownAll ds)
  | _, _, .nil, us, r, _, _ => by
    cases r
    exact ⟨_, [], .nil, fun _ h => (nomatch h), by simp only [PyData.shownAll]; exact .nil⟩
  | _, _, .cons (d := d) (ds := ds) h hl, us, r, hs, hz => by
    cases r with
    | cons r1 r2 =>
      have h2 : d.showable = true ∧ PyData.showableAll ds = true := by simpa [PyData.showableAll] using hs
      obtain ⟨a1, b1, q1, m1, k1⟩ := Dq.rk I h _ r1 h2.1 (hz _ (by simp only [PyData.shownAll]; exact List.mem_cons_self))
      obtain ⟨a2, b2, q2, m2, k2⟩ := DqAll.rk I hl _ r2 h2.2
        fun t ht => hz t (by simp only [PyData.shownAll]; exact List.mem_cons_of_mem _ ht)
      refine ⟨_, b1 ++ b2, .cons q1 q2, by simp only [PyData.depthAll]; exact ram_app m1 m2, ?_⟩
      simp only [PyData.depthAll, PyData.shownAll]
      exact .cons ((k1.more fun b hb => List.mem_append_left _ hb).level_le (Nat.le_max_left _ _))
        (k2.more_le (fun b hb => List.mem_append_right _ hb) (Nat.le_max_right _ _))
theorem DqKv.rk (I : Inv X pins σ H s) : ∀ {vs : List (Key × V)} {ds : List (PyData × PyData)}, DqKv X.K H vs ds →
    ∀ (es : List DictEntry) (us : List (Key × Value)), KV vs us → Pairs (mixKind X.prog X.w) es us →
    PyData.showableKv ds = true → (∀ t ∈ PyData.shownKv ds, t.length ≤ sizeLine) →
    ∃ as cs bs, ReadsAll s.heap (es.map (·.key)) (ds.map (·.1)) as ∧ ReadsAll s.heap (es.map (·.val)) (ds.map (·.2)) cs ∧
      ReadAtMost s.heap (PyData.depthKv ds) bs ∧
      ReprEntriesK X.prog X.w bs s.heap (PyData.depthKv ds) es (PyData.shownKv ds)
  | _, _, .nil, es, us, r, p, _, _ => by
    cases r
    cases p
    exact ⟨_, _, [], .nil, .nil, fun _ h => (nomatch h), by simp only [PyData.shownKv]; exact .nil⟩
  | _, _, .cons (k := k) (d := d) (ds := ds) h hl, es, us, r, p, hs, hz => by
    cases r with
    | cons r1 r2 =>
      cases p with
      | cons p1 p2 p3 =>
        obtain ⟨e1, r1⟩ := r1
        have h2 : ((kd k).showable = true ∧ d.showable = true) ∧ PyData.showableKv ds = true := by
          simpa [PyData.showableKv] using hs
        have big : ((kd k).shown ++ ": " ++ d.shown).length ≤ sizeLine :=
          hz _ (by simp only [PyData.shownKv]; exact List.mem_cons_self)
        have big2 : (kd k).shown.length + 2 + d.shown.length ≤ sizeLine := by
          have e2 : ((kd k).shown ++ ": " ++ d.shown).length = (kd k).shown.length + 2 + d.shown.length := by
            rw [Str.length_append, Str.length_append]
            rfl
          omega
        rw [← p2] at r1
        rw [← e1] at p1
        dsimp only at p1
        obtain ⟨q0, k0⟩ := rk_key (X := X) (s := s) p1 h2.1.1 (by omega)
        obtain ⟨a1, b1, q1, m1, k1⟩ := Dq.rk I h _ r1 h2.1.2 (by omega)
        obtain ⟨a2, c2, b2, q2, q3, m2, k2⟩ := DqKv.rk I hl _ _ r2 p3 h2.2
          fun t ht => hz t (by simp only [PyData.shownKv]; exact List.mem_cons_of_mem _ ht)
        refine ⟨_, _, b1 ++ b2, .cons q0 q2, .cons q1 q3, ?_, ?_⟩
        · simp only [PyData.depthKv]
          intro c hc
          obtain ⟨d', xs, r', l⟩ := ram_app m1 m2 c hc
          exact ⟨d', xs, r', by omega⟩
        · simp only [PyData.depthKv, PyData.shownKv]
          exact .cons (k0 _ _) ((k1.more fun b hb => List.mem_append_left _ hb).level_le (by omega))
            (ek_more (fun b hb => List.mem_append_right _ hb) (Nat.le_max_right _ _) k2)
end
end
section
variable {X : Cx}
/-- repr(x), x a list, a tuple or a dict of data -/
def rShq (K : PySem.W.Frag) : List V → Hp → VK → Prop := fun xs H Q => ∃ (a : Addr) (d : PyData), xs = [.ref a] ∧
  Dq K H (.ref a) d ∧ d.showable = true ∧ d.depth ≤ 60 ∧ d.shown.length ≤ sizeLine ∧ Q (.str d.shown) H
theorem call_repq (hA : X.A.guards = some []) (hu : X.A.units + 64 < cLine) :
    CallR X (.builtin "repr") (rShq X.K) := by
  intro pins s σ H xs us Q I r h
  obtain ⟨a, d, rfl, hd, hs, hdp, hz, q⟩ := h
  obtain ⟨u, rfl, ru⟩ := vals1 r
  obtain rfl : u = Value.ref a := ru
  have fin : ∀ (t : Str), t = d.shown → ∀ (h' : Heap) (u : Tok) (tk : Nat), (∀ b o, s.heap.get? b = some o → h'.get? b = some o) →
      ∃ x tt, Value.str t u = .str x tt ∧ EP X pins σ Q (.str t u) { s with heap := h', toks := tk } := by
    intro t et h' u tk keep
    subst et
    exact ⟨_, _, rfl, .str _, H, I.kept keep, ⟨u, rfl⟩, q⟩
  cases hd with
  | lst hq ha =>
    rename_i xs ds
    obtain ⟨its, rv, ⟨o, n, ho, hc, _, hdd⟩, _⟩ := I.list hq
    have hz1 : (listText (PyData.shownAll ds)).length ≤ sizeLine := by simpa only [PyData.shown] using hz
    obtain ⟨as, bs, rd, hb, hk⟩ := DqAll.rk I ha its rv (by simpa [PyData.showable] using hs)
      fun t ht => Nat.le_trans (listText_mem_le ht) hz1
    have R : Reads s.heap (.ref a) (.list ds) _ := .list ho hc hdd rd
    have nb : a ∉ bs := not_mem_of_deeper R (by simp only [PyData.depth]; omega) hb
    refine call_repr_slot (by omega) ⟨o, ho, hc⟩ F.slot_list_repr.toG ?_
    simp only [PyData.depth] at hdp
    cases its with
    | nil =>
      cases rd
      exact call_list_repr_empty ⟨o, ho, hc⟩ ho hdd (fin "[]" (by simp [PyData.shown, PyData.shownAll, listText_nil]) _ _ _ fun _ _ e => e)
    | cons y l =>
      exact call_list_reprK ho hc hdd nb (by simpa using hk.length_eq) (fun i z e => hk.item i z (by simpa using e)) hA
        (fun b _ => Clear.nil b) (by show X.A.units + 1 + _ < cLine; omega) (fun _ _ e => e)
        (fun h' u tk keep => fin _ (by simp only [PyData.shown]) h' u tk keep) hz1
  | tup hq ha =>
    rename_i xs ds
    obtain ⟨its, rv, ⟨o, ho, hc, n, hdd⟩, _⟩ := I.tuple hq
    have hz1 : (tupleText (PyData.shownAll ds)).length ≤ sizeLine := by simpa only [PyData.shown] using hz
    obtain ⟨as, bs, rd, hb, hk⟩ := DqAll.rk I ha its rv (by simpa [PyData.showable] using hs)
      fun t ht => Nat.le_trans (tupleText_mem_le ht) hz1
    have R : Reads s.heap (.ref a) (.tuple ds) _ := .tuple ho hc hdd rd
    have nb : a ∉ bs := not_mem_of_deeper R (by simp only [PyData.depth]; omega) hb
    refine call_repr_slot (by omega) ⟨o, ho, hc⟩ F.slot_tuple_repr ?_
    simp only [PyData.depth] at hdp
    exact call_tuple_reprK ho hc hdd nb hk hA (fun b _ => Clear.nil b) (by show X.A.units + 1 + _ < cLine; omega)
      (fun _ _ e => e) (fun h' u tk keep => fin _ (by simp only [PyData.shown]) h' u tk keep) hz1
  | dic hq ha =>
    rename_i kvs ds
    obtain ⟨_, hsys, vs, rv, o, es, ep, ho, hc, hdd, _, hp, _⟩ :=
      (show ObjOk X.prog X.w H s.heap a (.dK kvs) from I.hok a _ hq)
    have hz1 : (dictText (PyData.shownKv ds)).length ≤ sizeLine := by simpa only [PyData.shown] using hz
    obtain ⟨as, cs, bs, r1, r2, hb, hk⟩ := DqKv.rk I ha es.toList vs rv hp (by simpa [PyData.showable] using hs)
      fun t ht => Nat.le_trans (dictText_mem_le ht) hz1
    have R : Reads s.heap (.ref a) (.dict ds) _ := .dict ho hc.1 hdd r1 r2
    have nb : a ∉ bs := not_mem_of_deeper R (by simp only [PyData.depth]; omega) hb
    refine call_repr_slot (by omega) ⟨o, ho, hc.1⟩ F.slot_dict_repr ?_
    simp only [PyData.depth] at hdp
    exact call_dict_reprK ho hc.1 hdd hsys nb hk hA (fun b _ => Clear.nil b) (by show X.A.units + 1 + _ < cLine; omega)
      (fun _ _ e => e) (fun h' u tk keep => fin _ (by simp only [PyData.shown]) h' u tk keep) hz1
end
end L2

/-! own rules 9: lists or tuples alike, static methods, max with a default -/
namespace L2
open PySem PySem.Spec PyProof.Rows
/-- a list or a tuple -/
def SqS (K : PySem.W.Frag) (H : Hp) (a : Addr) (xs : List V) : Prop := SqL K H a xs ∨ SqT K H a xs
def iSeq (K : PySem.W.Frag) (tl : TE) : TI := fun σ H R => tl σ H fun x H1 => ∃ a, x = .ref a ∧
  (((∃ xs, SqL K H1 a xs) ∧ R (Itl K a) H1) ∨ ((∃ xs, SqT K H1 a xs) ∧ R (Itt K a) H1))
section
variable {X : Cx} {tg : Expr}
theorem pi_seq {l : Expr} {tl : TE} (hl : PE X l tl) : PI X tg l (iSeq X.K tl) := by
  refine ⟨fun pins s σ H R I h => ?_⟩
  refine thn (hl.run pins s σ H _ I h) fun v s1 ⟨x, H1, I1, r1, q1⟩ => ?_
  obtain ⟨a, e, q1⟩ := q1
  subst e
  cases r1
  have fp : ∀ b ∈ [s1.heap.objs.size], FpOk X pins H1 b := fun b hb => by
    obtain rfl : b = s1.heap.objs.size := by simpa using hb
    exact I1.fpOk (Nat.le_refl _) (I1.hok.fresh (Nat.le_refl _))
  rcases q1 with ⟨⟨xs, hq⟩, q⟩ | ⟨⟨xs, hq⟩, q⟩
  · obtain ⟨its, rv, p, _⟩ := I1.list hq
    refine wpAny_pyIter_list p.isList ?_
    exact ⟨s1.heap.objs.size, [s1.heap.objs.size], _, _, H1, rfl,
      I1.kept (t' := s1.toks) (fun b o e => Heap.get?_push_of_some _ e), turn_list a _,
      ⟨_, Heap.get?_push_size _ rfl, rfl, rfl⟩, fp, q⟩
  · obtain ⟨its, rv, p, _⟩ := I1.tuple hq
    refine wpAny_pyIter_tuple (show s1.heap.IsTuple a its.toArray from p) ?_
    exact ⟨s1.heap.objs.size, [s1.heap.objs.size], _, _, H1, rfl,
      I1.kept (t' := s1.toks) (fun b o e => Heap.get?_push_of_some _ e), turn_tuple a _,
      ⟨_, Heap.get?_push_size _ rfl, rfl, rfl⟩, fp, q⟩
end
/-- a comprehension over a list or a tuple, by one word -/
theorem lc_seq {K : PySem.W.Frag} {a : Addr} {xs : List V} {tl : TE} {g : TG} {tt : TT} {te : TE} {vs : List Nat} {σ : St}
    {H : Hp} {Q : VK} (he : ∀ R : V → Hp → Prop, R (.ref a) H → tl σ H R) (hs : SqS K H a xs)
    (hl : SqL K H a xs → tLc (iList K tl) g tt te vs σ H Q) (ht : SqT K H a xs → tLc (iTup K tl) g tt te vs σ H Q) :
    True := trivial
theorem SqS.new {K : PySem.W.Frag} {H H' : Hp} {a : Addr} {xs : List V} (h : SqS K H a xs) (s : Same H H') : SqS K H' a xs := by
  rcases h with ((h | ⟨o, h⟩) | h) | ((h | ⟨o, h⟩) | h)
  · exact .inl (.inl (.inl (s _ _ h)))
  · exact .inl (.inl (.inr ⟨o, s _ _ h⟩))
  · exact .inl (.inr h)
  · exact .inr (.inl (.inl (s _ _ h)))
  · exact .inr (.inl (.inr ⟨o, s _ _ h⟩))
  · exact .inr (.inr h)
theorem SqS.len {K : PySem.W.Frag} {H : Hp} {a : Addr} {xs : List V} (h : SqS K H a xs) : LenV K (.ref a) H xs.length := by
  rcases h with h | h
  · exact .inl ⟨xs, h, rfl⟩
  · exact .inr ⟨xs, h, rfl⟩
theorem SqS.ix {K : PySem.W.Frag} {H : Hp} {a : Addr} {xs : List V} (h : SqS K H a xs) {i : Int} {v : V} {Q : VK}
    (e : atI xs i = some v) (q : Q v H) : rIx K (.ref a) (.int i) H Q := by
  rcases h with h | h
  · exact .inl ⟨a, xs, i, v, rfl, rfl, h, e, q⟩
  · exact .inr (.inl ⟨a, xs, i, v, rfl, rfl, h, e, q⟩)
/-! ### a static method off a class -/
structure SMet (K : PySem.W.Frag) (C : Addr) (m : Str) (g : Addr) : Prop where
  ex : ∃ mc p rest, PySem.W.readsIn K C mc = true ∧
    PySem.W.findCls K (.ref C) mc m = some (.get (.builtin "staticmethod.__get__") (.ref p) .none (.ref C)) ∧
    PySem.W.recIn K p "staticmethod" = some (.ref g :: rest)
  ga : PySem.W.specialIn K (.ref C) "__getattribute__" = some (some (.builtin "type.__getattribute__"))
  kp : PySem.W.keepIn K (.ref g) = true
def tSMeth (C : Addr) (sp : Sp) (dvs : List V) (E : XK) (ta : TE) (t : TA) : TE := fun σ H Q => ta σ H fun x H1 =>
  x = .ref C ∧ t σ H1 fun vs H2 => sp (vs ++ dvs) H2 Q E
section
variable {X : Cx} {CX : CXT} {k : Nat} {C g : Addr} {m : Str} {fd : FuncData} {ps : List Str} {sp : Sp} {dvs : List V}
  {ds : List Value} {E : XK} {e o : Expr} {es : List Expr} {pos apos : Pos} {ta : TE} {t : TA}
theorem getsm {pins : List (Addr × Obj)} {σ : St} {H : Hp} {s : Shared} {pl : Sem Bool} {A : Around}
    {E' : Value → Shared → Prop} {Q : Value × List Value → Shared → Prop} (I : Inv X pins σ H s) (M : SMet X.K C m g)
    (h : ∀ s', Inv X pins σ H s' → Q (.ref g, []) s') :
    wpAny (model X.prog X.w) A (getMethod (.ref C) m pl) Q E' s := by
  obtain ⟨mc, p, rest, hr, hf, hp⟩ := M.ex
  refine PySem.W.method_cls I.kIn M.ga ?_
  refine PySem.W.cls_bind I.kIn hr hf (wpAny_call (PySem.W.sm_get (s := { s with toks := s.toks + 1 }) I.kIn hp
    (PySem.W.handed_on rfl ?_)))
  exact h _ (I.tok _)
/-- C.m(e, ..), m a static method -/
theorem pe_sm {pl : Sem Bool} (he : PE X o ta) (M : SMet X.K C m g)
    (F : FnOk X.prog X.w X.K X.mg X.base CX k g fd ps sp) (hr : Room k X.A) (hb : Binds X.K fd ps ds) (hd : Vals dvs ds)
    (hx : Passes CX X E) (ha : PA X (e :: es) t)
    (hst : starEach (e :: es) X.env = (false, eval e X.env) :: starEach es X.env := by rfl)
    (hpl : (backTo pos (starEach es X.env)).any (·.1) = false := by rfl)
    (ht : eval (.Call (.Attribute o m apos) (e :: es) [] pos) X.env = (do
      let ov ← eval o X.env
      standAt apos.atName
      let (f, first) ← holding [ov] (getMethod ov m pl)
      callWith pos f first (backTo pos (starEach (e :: es) X.env)) (backToKw pos (keywordEach [] X.env))) := by rfl) :
    PE X (.Call (.Attribute o m apos) (e :: es) [] pos) (tSMeth C sp dvs E ta t) := by
  refine ⟨fun pins s σ H Q I h => ?_⟩
  refine PySem.W.methodCall_KW (pl := pl) (thn (he.run pins s σ H _ I h) fun u s1 ⟨x, H1, I1, rx, ex, q⟩ => ?_) ht
  subst ex
  obtain rfl : u = Value.ref C := rx
  refine getsm I1 M fun s2 I2 => ?_
  refine PySem.W.callWith_K (first := []) (h₀ := X.base) I2.ok.mod.kin M.kp
    (thn (ha.run pos pins s2 σ H1 _ I2 q) fun us s3 ⟨vs, H2, I3, r, q2⟩ => ⟨I3.kIn, ?_⟩) hst hpl
  exact run_fn F hr hb hd hx I3 r q2
/-- C.m() -/
theorem pe_sm0 {pl : Sem Bool} (he : PE X o ta) (M : SMet X.K C m g)
    (F : FnOk X.prog X.w X.K X.mg X.base CX k g fd ps sp) (hr : Room k X.A) (hb : Binds X.K fd ps ds) (hd : Vals dvs ds)
    (hx : Passes CX X E)
    (ht : eval (.Call (.Attribute o m apos) [] [] pos) X.env = (do
      let ov ← eval o X.env
      standAt apos.atName
      let (f, first) ← holding [ov] (getMethod ov m pl)
      callWith pos f first (backTo pos (starEach [] X.env)) (backToKw pos (keywordEach [] X.env))) := by rfl) :
    PE X (.Call (.Attribute o m apos) [] [] pos) (tSMeth C sp dvs E ta tNil) := by
  refine ⟨fun pins s σ H Q I h => ?_⟩
  refine PySem.W.methodCall_KW (pl := pl) (thn (he.run pins s σ H _ I h) fun u s1 ⟨x, H1, I1, rx, ex, q⟩ => ?_) ht
  subst ex
  obtain rfl : u = Value.ref C := rx
  refine getsm I1 M fun s2 I2 => ?_
  exact PySem.W.callWith_K0 (first := []) I2.kIn M.kp (run_fn (us := []) F hr hb hd hx I2 .nil q)
end
end L2

/-! own rules 10: comprehensions whose parts change nothing -/
namespace L2
open PySem PySem.Spec PyProof.Rows
/-- what a comprehension makes of its items: r by the turn and the item, none where a test leaves it out -/
def fm (r : Nat → V → Option V) : Nat → List V → List V
  | _, [] => []
  | i, x :: xs => (r i x).toList ++ fm r (i + 1) xs
theorem fm_len (r : Nat → V → Option V) : ∀ (xs : List V) (i : Nat), (fm r i xs).length ≤ xs.length
  | [], _ => Nat.le_refl _
  | x :: xs, i => by
    have := fm_len r xs (i + 1)
    unfold fm
    rw [List.length_append, List.length_cons]
    have : ((r i x).toList).length ≤ 1 := by cases r i x <;> simp
    omega
theorem fm_snoc (r : Nat → V → Option V) : ∀ (xs : List V) (x : V) (i : Nat),
    fm r i (xs ++ [x]) = fm r i xs ++ (r (i + xs.length) x).toList
  | [], x, i => by simp [fm]
  | y :: ys, x, i => by
    have e : i + 1 + ys.length = i + (y :: ys).length := by rw [List.length_cons]; omega
    show (r i y).toList ++ fm r (i + 1) (ys ++ [x]) = _
    rw [fm_snoc r ys x (i + 1), e, ← List.append_assoc]
    rfl
/-- one turn's parts -/
def Pure1 (r : Nat → V → Option V) (g : TG) (tt : TT) (te : TE) (vs : List Nat) (σ : St) (i : Nat) (x : V) (H : Hp) : Prop :=
  ∀ (Ky : VK) (Kn : Hp → Prop), (∀ y, r i x = some y → Ky y H) → (r i x = none → Kn H) →
    g x (wipe σ vs) H fun σ2 H2 => wipe σ2 vs = wipe σ vs ∧ tt σ2 H2 fun b H3 => if b = true then te σ2 H3 Ky else Kn H3
theorem pure_turn {r : Nat → V → Option V} {g : TG} {tt : TT} {te : TE} {vs : List Nat} {σ : St} {H1 : Hp} {D : Addr}
    {xs : List V} {i : Nat} {x : V} {Pv : Nat → Hp → Prop} (hx : xs[i]? = some x) (hz : xs.length ≤ sizeLine)
    (hP : ∀ j H, Pv j H ↔ H = upd H1 D (.lst (fm r 0 (xs.take j)))) {H : Hp} (hH : Pv i H)
    (h : Pure1 r g tt te vs σ i x H) :
    g x (wipe σ vs) H fun σ2 H2 => wipe σ2 vs = wipe σ vs ∧ tt σ2 H2 fun b H3 =>
      if b = true then te σ2 H3 fun y H4 => ∃ acc, H4 D = some (.lst acc) ∧ acc.length < sizeLine ∧
        Pv (i + 1) (upd H4 D (.lst (acc ++ [y]))) else Pv (i + 1) H3 := by
  have e := (hP i H).mp hH
  have hi : i < xs.length := (List.getElem?_eq_some_iff.mp hx).1
  have tk : xs.take (i + 1) = xs.take i ++ [x] := by
    rw [List.take_add_one, hx]
    rfl
  have l : (xs.take i).length = i := by rw [List.length_take]; omega
  have sn : fm r 0 (xs.take (i + 1)) = fm r 0 (xs.take i) ++ (r i x).toList := by
    rw [tk, fm_snoc, l, Nat.zero_add]
  refine h _ _ (fun y hy => ?_) fun hn => ?_
  · refine ⟨fm r 0 (xs.take i), by rw [e]; exact upd_same, ?_, (hP _ _).mpr ?_⟩
    · have := fm_len r (xs.take i) 0
      omega
    · rw [e, upd_upd, sn, hy]
      rfl
  · rw [hP, e, sn, hn]
    simp
section
variable {K : PySem.W.Frag} {a : Addr} {xs : List V} {r : Nat → V → Option V} {g : TG} {tt : TT} {te : TE}
  {vs : List Nat} {σ : St} {H : Hp} {Q : VK} {tl : TE}
theorem SqS.at_new {H : Hp} {D : Addr} {u : HO} (h : SqS K H a xs) (hD : H D = none) : SqS K (upd H D u) a xs :=
  h.new (Same.new hD)
theorem sqL_upd {H : Hp} {D : Addr} {u : HO} (h : SqL K H a xs) (hD : H D = none) : SqL K (upd H D u) a xs := sq_new hD h
theorem sqT_upd {H : Hp} {D : Addr} {u : HO} (h : SqT K H a xs) (hD : H D = none) : SqT K (upd H D u) a xs := by
  rcases h with (h | ⟨o, h⟩) | h
  · exact .inl (.inl (upd_new hD h))
  · exact .inl (.inr ⟨o, upd_new hD h⟩)
  · exact .inr h
/-- [.. for x in a list] -/
theorem tlc_list (hs : SqL K H a xs) (hz : xs.length ≤ sizeLine) (htl : ∀ R : VK, R (.ref a) H → tl σ H R)
    (ht : ∀ i x H', xs[i]? = some x → Same H H' → Pure1 r g tt te vs σ i x H')
    (hQ : ∀ D, H D = none → Q (.ref D) (upd H D (.lst (fm r 0 xs)))) : tLc (iList K tl) g tt te vs σ H Q := by
  refine htl _ ⟨a, rfl, ⟨xs, hs⟩, fun D hD => ?_⟩
  refine lc_list (K := K) (a := a) (xs := xs) (fun j H' => H' = upd H D (.lst (fm r 0 (xs.take j)))) rfl
    (fun i H' _ e => by rw [e]; exact sqL_upd hs hD) (fun i x H' hx e => ?_) fun H' e => ?_
  · exact pure_turn hx hz (fun _ _ => Iff.rfl) e (ht i x H' hx (by rw [e]; exact Same.new hD))
  · rw [e, List.take_of_length_le (Nat.le_refl _)]
    exact hQ D hD
/-- [.. for x in a tuple] -/
theorem tlc_tup (hs : SqT K H a xs) (hz : xs.length ≤ sizeLine) (htl : ∀ R : VK, R (.ref a) H → tl σ H R)
    (ht : ∀ i x H', xs[i]? = some x → Same H H' → Pure1 r g tt te vs σ i x H')
    (hQ : ∀ D, H D = none → Q (.ref D) (upd H D (.lst (fm r 0 xs)))) : tLc (iTup K tl) g tt te vs σ H Q := by
  refine htl _ ⟨a, rfl, ⟨xs, hs⟩, fun D hD => ?_⟩
  refine lc_tup (K := K) (a := a) (xs := xs) (fun j H' => H' = upd H D (.lst (fm r 0 (xs.take j)))) rfl
    (fun i H' _ e => by rw [e]; exact sqT_upd hs hD) (fun i x H' hx e => ?_) fun H' e => ?_
  · exact pure_turn hx hz (fun _ _ => Iff.rfl) e (ht i x H' hx (by rw [e]; exact Same.new hD))
  · rw [e, List.take_of_length_le (Nat.le_refl _)]
    exact hQ D hD
/-- [.. for x in a list or a tuple] -/
theorem tlc_seq (hs : SqS K H a xs) (hz : xs.length ≤ sizeLine) (htl : ∀ R : VK, R (.ref a) H → tl σ H R)
    (ht : ∀ i x H', xs[i]? = some x → Same H H' → Pure1 r g tt te vs σ i x H')
    (hQ : ∀ D, H D = none → Q (.ref D) (upd H D (.lst (fm r 0 xs)))) : tLc (iSeq K tl) g tt te vs σ H Q := by
  rcases hs with hs | hs
  · exact htl _ ⟨a, rfl, .inl ⟨⟨xs, hs⟩, fun D hD => lc_list (K := K) (a := a) (xs := xs)
      (fun j H' => H' = upd H D (.lst (fm r 0 (xs.take j)))) rfl (fun i H' _ e => by rw [e]; exact sqL_upd hs hD)
      (fun i x H' hx e => pure_turn hx hz (fun _ _ => Iff.rfl) e (ht i x H' hx (by rw [e]; exact Same.new hD)))
      fun H' e => by rw [e, List.take_of_length_le (Nat.le_refl _)]; exact hQ D hD⟩⟩
  · exact htl _ ⟨a, rfl, .inr ⟨⟨xs, hs⟩, fun D hD => lc_tup (K := K) (a := a) (xs := xs)
      (fun j H' => H' = upd H D (.lst (fm r 0 (xs.take j)))) rfl (fun i H' _ e => by rw [e]; exact sqT_upd hs hD)
      (fun i x H' hx e => pure_turn hx hz (fun _ _ => Iff.rfl) e (ht i x H' hx (by rw [e]; exact Same.new hD)))
      fun H' e => by rw [e, List.take_of_length_le (Nat.le_refl _)]; exact hQ D hD⟩⟩
theorem SqS.ty {K : PySem.W.Frag} {H : Hp} {a : Addr} {xs : List V} (h : SqS K H a xs) :
    ∃ T : String, (T = "list" ∨ T = "tuple") ∧ TyX K H (.ref a) (.type T) := by
  rcases h with ((h | ⟨o, h⟩) | ⟨o, _, _, h, c, _⟩) | ((h | ⟨o, h⟩) | ⟨o, _, _, h, c, _⟩)
  · exact ⟨_, .inl rfl, .base (.lst h)⟩
  · exact ⟨_, .inl rfl, .base (.frz h)⟩
  · exact ⟨_, .inl rfl, .kList h c⟩
  · exact ⟨_, .inr rfl, .base (.tup h)⟩
  · exact ⟨_, .inr rfl, .fTuple h⟩
  · exact ⟨_, .inr rfl, .kTuple h c⟩
theorem kit_lt {K : PySem.W.Frag} {T : String} (h : T = "list" ∨ T = "tuple") :
    PySem.W.kitAny K (.type T) [.type "list", .type "tuple"] = some true := by
  rcases h with rfl | rfl
  · refine kitAny_cons (b := true) (kit_ty (by decide +kernel)) (fun z => by cases z) fun _ => rfl
  · refine kitAny_cons (b := false) (kit_ty (by decide +kernel)) (fun _ => ?_) fun z => by cases z
    exact kitAny_cons (b := true) (kit_ty (by decide +kernel)) (fun z => by cases z) fun _ => rfl
theorem fm_map (f : V → V) (r : Nat → V → Option V) (h : ∀ i x, r i x = some (f x)) :
    ∀ (xs : List V) (i : Nat), fm r i xs = xs.map f
  | [], _ => rfl
  | x :: xs, i => by
    unfold fm
    rw [h, fm_map f r h xs]
    rfl
theorem all_true (xs : List V) : fm (fun _ _ => some (V.bl true)) 0 xs = (xs.map fun _ => true).map V.bl := by
  rw [fm_map (fun _ => V.bl true) _ (fun _ _ => rfl), List.map_map]
  rfl
theorem yes_run {te : TE} {σ : St} {H : Hp} {Ky : VK} {Kn : Hp → Prop} (h : te σ H Ky) :
    tYes σ H fun b H3 => if b = true then te σ H3 Ky else Kn H3 := by
  show if true = true then te σ H Ky else Kn H
  rw [if_pos rfl]
  exact h
/-- a module's whole number -/
theorem pe_cst {X : Cx} {x : Str} {i : Int} {pos : Pos} (hg : Gl X x) (h : ∃ t, X.mg x = some (.int i t))
    (hd : (x == ("__debug__" : Str)) = false := by decide) : PE X (.Name x pos) (tC (.int i)) := by
  obtain ⟨t, e⟩ := h
  exact pe_glob hg e ⟨t, rfl⟩ hd
/-- the ints of a range -/
def rngV (lo : Int) (n : Nat) : List V := (List.range n).map fun (i : Nat) => V.int (lo + (i : Int))
theorem rngV_at {lo : Int} {n i : Nat} (h : i < n) : (rngV lo n)[i]? = some (.int (lo + (i : Int))) := by
  unfold rngV
  rw [List.getElem?_map, List.getElem?_range h]
  rfl
theorem rngV_len (lo : Int) (n : Nat) : (rngV lo n).length = n := by
  unfold rngV
  rw [List.length_map, List.length_range]
theorem lc_rng {lo : Int} {n : Nat} {D : Addr} {Qd : Hp → Prop} (hz : n ≤ sizeLine) (hD : H D = none)
    (ht : ∀ i H', i < n → Same H H' → Pure1 r g tt te vs σ i (.int (lo + (i : Int))) H')
    (hQ : Qd (upd H D (.lst (fm r 0 (rngV lo n))))) :
    ∃ W : Nat → Nat → Hp → Prop, (∃ m, W 0 m (upd H D (.lst []))) ∧ ∀ i m H, W i m H →
      ((Itr lo n).stop i H ∧ Qd H) ∨ ((Itr lo n).go i H ∧ ∃ Nx : Hp → Prop,
        (∀ H', Nx H' → ∃ m', m' < m ∧ W (i + 1) m' H') ∧ ∀ x H', (Itr lo n).yld i H x H' → g x (wipe σ vs) H'
          fun σ2 H2 => wipe σ2 vs = wipe σ vs ∧ tt σ2 H2 fun b H3 => if b = true then te σ2 H3 fun y H4 =>
            ∃ acc, H4 D = some (.lst acc) ∧ acc.length < sizeLine ∧ Nx (upd H4 D (.lst (acc ++ [y]))) else Nx H3) := by
  refine lc_range (lo := lo) (n := n) (fun j H' => H' = upd H D (.lst (fm r 0 ((rngV lo n).take j)))) rfl
    (fun i H' hi e => ?_) fun H' e => ?_
  · exact pure_turn (xs := rngV lo n) (rngV_at hi) (by rw [rngV_len]; exact hz) (fun _ _ => Iff.rfl) e
      (ht i H' hi (by rw [e]; exact Same.new hD))
  · rw [e, List.take_of_length_le (by rw [rngV_len]; exact Nat.le_refl _)]
    exact hQ
end
end L2

/-! own rules 11: slices and indices -/
namespace L2
open PySem PySem.Spec PyProof.Rows
theorem cut_from (xs : List V) (b : Nat) : cutV xs (some (b : Int)) none = xs.drop b := by
  have q : cutV xs (some (b : Int)) none = (xs.drop (HT.sIx xs.length 0 (some (b : Int)))).take
      (HT.sIx xs.length xs.length none - HT.sIx xs.length 0 (some (b : Int))) := rfl
  rw [q, HT.sIx_nat, HT.sIx_none]
  by_cases h : b ≤ xs.length
  · rw [Nat.min_eq_left h, List.take_of_length_le]
    rw [List.length_drop]
    exact Nat.le_refl _
  · rw [Nat.min_eq_right (by omega), List.drop_of_length_le (by omega), List.drop_of_length_le (by omega)]
    simp
theorem cut_to (xs : List V) (k : Nat) : cutV xs none (some (k : Int)) = xs.take k := by
  have q : cutV xs none (some (k : Int)) = (xs.drop (HT.sIx xs.length 0 none)).take
      (HT.sIx xs.length xs.length (some (k : Int)) - HT.sIx xs.length 0 none) := rfl
  rw [q, HT.sIx_nat, HT.sIx_none, List.drop_zero]
  by_cases h : k ≤ xs.length
  · rw [Nat.min_eq_left h]
    rfl
  · rw [Nat.min_eq_right (by omega), List.take_of_length_le (by omega), List.take_of_length_le (by omega)]
theorem fm_idx (r : Nat → V → Option V) (f : Nat → V) (h : ∀ i x, r i x = some (f i)) : ∀ (xs : List V) (k : Nat),
    fm r k xs = (List.range xs.length).map fun i => f (k + i)
  | [], _ => rfl
  | x :: xs, k => by
    unfold fm
    rw [h, fm_idx r f h xs (k + 1), List.length_cons, List.range_succ_eq_map]
    simp only [Option.toList, List.singleton_append, List.map_cons, List.map_map]
    congr 1
    apply List.map_congr_left
    intro i _
    show f (k + 1 + i) = f (k + (i + 1))
    congr 1
    omega
end L2

/-! own rules 12: defs by name, for callers of whose guards nothing is known -/
namespace L2
open PySem PySem.Spec PyProof.Rows
/-- what a def of the top keeps, whatever its guards are -/
def Kf (P : Program) (w : World) (K : PySem.W.Frag) (mg : Str → Option Value) (base : Heap) (k : Nat) (x : Str)
    (ps : List Str) (sp : Sp) : Prop :=
  ∃ f fd, mg x = some (.ref f) ∧ PySem.W.keepIn K (.ref f) = true ∧ Binds K fd ps [] ∧
    FnOk P w K mg base CX0 k f fd ps sp
section
variable {P : Program} {w : World} {K : PySem.W.Frag} {mg : Str → Option Value} {base : Heap}
theorem OwnD.okF {x : Str} {st : Stmt} {N ps : List Str} {k : Nat} {sp : Sp} (O : OwnD K mg x st ps)
    (S : FnScope N ps (defScope st)) (len : ∀ vs H Q E, sp vs H Q E → vs.length = ps.length)
    (hbody : ∀ (f : Addr) (cdv : Value) (A : Around) (outer : List Env) (s : Shared) (H : Hp) (vs : List V) (Q : VK)
      (E : XK), True →
      Room k (A.deeper (envOfC x (defScope st) s.heap.objs.size f cdv)) → sp vs H Q E →
      ∃ t, PSs (cxOf CX0 P w K mg base N x (defScope st) f cdv A outer s H E).nox (defBody st) t ∧
        t { nx := fun _ H' => Q .non H', rt := Q } (start N vs) H) :
    Kf P w K mg base (k + 1) x ps sp := by
  obtain ⟨f, fd, hm, F, b⟩ := O
  exact ⟨f, fd, hm, F.kp, b, F.ok S len fun cdv A outer s H vs Q E hr h => hbody f cdv A outer s H vs Q E trivial hr h⟩
end
section
variable {X : Cx} {k j : Nat} {ps : List Str} {sp : Sp} {x : Str} {p pos : Pos} {e : Expr} {es : List Expr} {t : TA}
theorem pe_kf (F : Kf X.prog X.w X.K X.mg X.base k x ps sp) {G : Prop} (hA : G) (hr : Room j X.A)
    (hg : Gl X x) (ha : PA X (e :: es) t) (hj : k ≤ j := by decide)
    (hdb : (x == ("__debug__" : Str)) = false := by decide)
    (he : starEach (e :: es) X.env = (false, eval e X.env) :: starEach es X.env := by rfl)
    (hpl : (backTo pos (starEach es X.env)).any (·.1) = false := by rfl)
    (hx : Passes CX0 X E0 := by exact pass0) :
    PE X (.Call (.Name x p) (e :: es) [] pos) (tCall sp [] E0 t) := by
  obtain ⟨f, fd, hm, hk, hb, G⟩ := F
  exact pe_call G (hr.mono hj) hg hm hk hb .nil hx ha hdb he hpl
end
end L2

/-! own rules 13: max(xs, default=..) of whole numbers -/
namespace L2
open PySem PySem.Spec PyProof.Rows
def rMaxD (vs zs : List V) (H : Hp) (Q : VK) : Prop := ∃ (a : Addr) (ns : List Int) (z : V), vs = [.ref a] ∧ zs = [z] ∧
  H a = some (.lst (ns.map V.int)) ∧ (ns = [] → Q z H) ∧ ∀ m, m ∈ ns → (∀ y ∈ ns, y ≤ m) → Q (.int m) H
theorem reads_ints {h : Heap} : ∀ {ns : List Int} {us : List Value}, Vals (ns.map V.int) us →
    ReadsAll h us (ns.map PyData.int) []
  | [], _, r => by
    cases r
    exact .nil
  | n :: ns, _, r => by
    cases r with
    | cons a b =>
      obtain ⟨t, rfl⟩ := a
      exact ReadsAll.cons (as := []) (.int n t) (reads_ints b)
theorem alike_ints (ns : List Int) : PySem.W.AlikeAll (ns.map PyData.int) := by
  constructor
  · intro x hx y hy
    obtain ⟨a, _, rfl⟩ := List.mem_map.mp hx
    obtain ⟨b, _, rfl⟩ := List.mem_map.mp hy
    simp [PySem.W.alike]
  · intro x hx
    obtain ⟨a, _, rfl⟩ := List.mem_map.mp hx
    intro h
    cases h
theorem depth_ints : ∀ ns : List Int, PyData.depthAll (ns.map PyData.int) ≤ 1
  | [] => by simp [PyData.depthAll]
  | n :: ns => by
    have := depth_ints ns
    simp [PyData.depthAll, PyData.depth]
    omega
theorem foldl_max_spec : ∀ (ns : List Int) (n : Int), (ns.foldl max n ∈ n :: ns) ∧ ∀ y ∈ n :: ns, y ≤ ns.foldl max n
  | [], n => ⟨List.mem_singleton_self _, fun y hy => by
      rw [List.mem_singleton] at hy
      rw [hy]
      exact Int.le_refl _⟩
  | k :: ns, n => by
    obtain ⟨h1, h2⟩ := foldl_max_spec ns (max n k)
    rw [List.foldl_cons]
    refine ⟨?_, fun y hy => ?_⟩
    · rcases List.mem_cons.mp h1 with e | e
      · rw [e]
        rcases Int.le_total n k with z | z
        · rw [Int.max_eq_right z]
          simp
        · rw [Int.max_eq_left z]
          simp
      · exact List.mem_cons_of_mem _ (List.mem_cons_of_mem _ e)
    · have h3 := h2 (max n k) (List.mem_cons_self ..)
      rcases List.mem_cons.mp hy with e | e
      · rw [e]
        exact Int.le_trans (Int.le_max_left n k) h3
      · rcases List.mem_cons.mp e with e | e
        · rw [e]
          exact Int.le_trans (Int.le_max_right n k) h3
        · exact h2 y (List.mem_cons_of_mem _ e)
theorem cr_maxD {X : Cx} (hcm : X.calm = true) (hu : X.A.units + 64 < cLine) : CallRK X (.builtin "max") ["default"] rMaxD := by
  intro pins s σ H xs zs us ws Q I r rz h
  obtain ⟨a, ns, z, rfl, rfl, hl, q0, q1⟩ := h
  obtain ⟨u, rfl, ru⟩ := vals1 r
  obtain rfl : u = Value.ref a := ru
  obtain ⟨d, rfl, rd⟩ := vals1 rz
  obtain ⟨its, rv, ⟨o, n, ho, hc, _, hdd⟩, _⟩ := I.list (SqL.of hl)
  have R := reads_ints (h := s.heap) rv
  refine PySem.W.max_list_default (as := []) (I.ok.hd hcm) ⟨o, ho, hc, n, hdd⟩ (by simpa using R) (alike_ints ns) (by have := depth_ints ns; omega) (fun e h' tk keep => ?_) fun y ys i v h' tk bs e hv rd' keep => ?_
  · refine ⟨z, H, I.kept keep, rd, q0 ?_⟩
    cases ns with
    | nil => rfl
    | cons a l => cases e
  · cases ns with
    | nil => cases e
    | cons n1 ns1 =>
      obtain ⟨rfl, rfl⟩ : y = .int n1 ∧ ys = ns1.map PyData.int := by
        rw [List.map_cons] at e
        cases e
        exact ⟨rfl, rfl⟩
      rw [PySem.W.maxD_ints] at rd'
      generalize hm : List.foldl max n1 ns1 = m at rd'
      have sp := foldl_max_spec ns1 n1
      rw [hm] at sp
      cases rd' with
      | int _ t => exact ⟨.int m, H, I.kept keep, ⟨t, rfl⟩, q1 m sp.1 sp.2⟩
end L2

/-! own rules 14: methods, properties, class calls with defaults, by facts that name no address -/
namespace L2
open PySem PySem.Spec PyProof.Rows
/-- a reading may be made weaker -/
theorem PE.weaker {X : Cx} {e : Expr} {t t' : TE} (h : PE X e t) (imp : ∀ σ H Q, t' σ H Q → t σ H Q) : PE X e t' :=
  ⟨fun pins s σ H Q I z => h.run pins s σ H Q I (imp σ H Q z)⟩
/-- a def of a class, its own text -/
abbrev MD (K : PySem.W.Frag) (x qual : Str) (st : Stmt) (dvs : List V) (f : Addr) (fd : FuncData) : Prop :=
  FunD K x qual (defArgs st) (defBody st) (defScope st) dvs [] f fd
section
variable {P : Program} {w : World} {K : PySem.W.Frag} {mg : Str → Option Value} {base : Heap}
theorem FunD.okM {x qual : Str} {st : Stmt} {dvs : List V} {f : Addr} {fd : FuncData} {N ps : List Str} {k : Nat} {sp : Sp}
    (F : MD K x qual st dvs f fd)
    (S : FnScope N ps (defScope st)) (len : ∀ vs H Q E, sp vs H Q E → vs.length = ps.length)
    (hbody : ∀ (f : Addr) (cdv : Value) (A : Around) (outer : List Env) (s : Shared) (H : Hp) (vs : List V) (Q : VK)
      (E : XK), True →
      Room k (A.deeper (envOfC qual (defScope st) s.heap.objs.size f cdv)) → sp vs H Q E →
      ∃ t, PSs (cxOf CX0 P w K mg base N qual (defScope st) f cdv A outer s H E).nox (defBody st) t ∧
        t { nx := fun _ H' => Q .non H', rt := Q } (start N vs) H) :
    FnOk P w K mg base CX0 (k + 1) f fd ps sp :=
  F.ok S len fun cdv A outer s H vs Q E hr h =>
    have ⟨t, ht, q⟩ := hbody f cdv A outer s H vs Q E trivial hr h
    ⟨t, ht.nox, q⟩
/-- what a property keeps -/
def Kpr (P : Program) (w : World) (K : PySem.W.Frag) (mg : Str → Option Value) (base : Heap) (C : Addr) (k : Nat) (x : Str)
    (sp : Sp) : Prop :=
  ∃ p g fd, PropOf K C x p g ∧ Binds K fd ["self"] [] ∧ FnOk P w K mg base CX0 k g fd ["self"] sp
/-- what making an object keeps, all arguments given -/
def Kmk (P : Program) (w : World) (K : PySem.W.Frag) (mg : Str → Option Value) (base : Heap) (C : Addr) (k : Nat) (ps : List Str)
    (sp : Sp) (Dv : V → Prop) : Prop :=
  ∃ f fd d, Mk K C f ∧ Binds K fd ps [] ∧ (∃ ds, Vals [d] ds ∧ Binds K fd ps ds) ∧ Dv d ∧ FnOk P w K mg base CX0 k f fd ps sp
/-- what a static method keeps -/
def Ksm (P : Program) (w : World) (K : PySem.W.Frag) (mg : Str → Option Value) (base : Heap) (C : Addr) (k : Nat) (x : Str)
    (ps : List Str) (dvs : List V) (sp : Sp) : Prop :=
  ∃ g fd ds, SMet K C x g ∧ Vals dvs ds ∧ Binds K fd ps ds ∧ FnOk P w K mg base CX0 k g fd ps sp
/-- C(e) where one more parameter has a default -/
def tMake1 (C : Addr) (sp : Sp) (Dv : V → Prop) (E : XK) (t : TA) : TE := fun σ H Q => t σ H fun vs H1 =>
  ∀ x dx d, H1 x = none → H1 dx = none → dx ≠ x → Dv d →
    sp (.ref x :: (vs ++ [d])) (upd (upd H1 dx (.own x)) x (.ins C dx [])) (fun v H2 => v = .non ∧ Q (.ref x) H2) E
end
section
variable {X : Cx} {k j : Nat} {ps : List Str} {sp : Sp} {x : Str} {p pos : Pos} {e : Expr} {es : List Expr} {t : TA} {C : Addr}
  {Dv : V → Prop}
theorem pe_kpr {ta : TE} (F : Kpr X.prog X.w X.K X.mg X.base C k x sp) (hC : Cls X.K C) (hr : Room j X.A) (he : PE X e ta)
    (hj : k + 1 ≤ j := by decide) (hx : Passes CX0 X.nox E0 := by exact pass0)
    (hb : attributeBase e x X.env (eval e X.env) = eval e X.env := by rfl) :
    PE X (.Attribute e x pos) (tProp C sp [] E0 ta) := by
  obtain ⟨p, g, fd, hp, hbd, F⟩ := F
  exact pe_prop he hC hp F (hr.mono hj) hbd .nil hx hb
theorem pe_kmk (F : Kmk X.prog X.w X.K X.mg X.base C k ps sp Dv) (hr : Room j X.A) (hg : Gl X x) (hm : X.mg x = some (.ref C))
    (ha : PA X (e :: es) t) (hj : k + 1 ≤ j := by decide) (hdb : (x == ("__debug__" : Str)) = false := by decide)
    (he : starEach (e :: es) X.env = (false, eval e X.env) :: starEach es X.env := by rfl)
    (hpl : (backTo pos (starEach es X.env)).any (·.1) = false := by rfl) (hx : Passes CX0 X E0 := by exact pass0) :
    PE X (.Call (.Name x p) (e :: es) [] pos) (tMake C sp [] E0 t) := by
  obtain ⟨f, fd, d, M, b, _, _, F⟩ := F
  exact pe_make M F (hr.mono hj) hg hm b .nil hx ha hdb he hpl
theorem pe_kmk1 (F : Kmk X.prog X.w X.K X.mg X.base C k ps sp Dv) (hr : Room j X.A) (hg : Gl X x) (hm : X.mg x = some (.ref C))
    (ha : PA X (e :: es) t) (mono : ∀ σ H (Q Q' : List V → Hp → Prop), (∀ vs H', Q vs H' → Q' vs H') → t σ H Q → t σ H Q')
    (hj : k + 1 ≤ j := by decide) (hdb : (x == ("__debug__" : Str)) = false := by decide)
    (he : starEach (e :: es) X.env = (false, eval e X.env) :: starEach es X.env := by rfl)
    (hpl : (backTo pos (starEach es X.env)).any (·.1) = false := by rfl) (hx : Passes CX0 X E0 := by exact pass0) :
    PE X (.Call (.Name x p) (e :: es) [] pos) (tMake1 C sp Dv E0 t) := by
  obtain ⟨f, fd, d, M, _, ⟨ds, hd, b⟩, dv, F⟩ := F
  refine (pe_make M F (hr.mono hj) hg hm b hd hx ha hdb he hpl).weaker fun σ H Q h => ?_
  exact mono σ H _ _ (fun vs H1 z x dx a1 a2 a3 => z x dx d a1 a2 a3 dv) h
theorem pe_ksm {o : Expr} {apos : Pos} {ta : TE} {dvs : List V} {pl : Sem Bool} (F : Ksm X.prog X.w X.K X.mg X.base C k x ps dvs sp) (hr : Room j X.A)
    (ho : PE X o ta) (ha : PA X (e :: es) t) (hj : k ≤ j := by decide)
    (he : starEach (e :: es) X.env = (false, eval e X.env) :: starEach es X.env := by rfl)
    (hpl : (backTo pos (starEach es X.env)).any (·.1) = false := by rfl)
    (hev : eval (.Call (.Attribute o x apos) (e :: es) [] pos) X.env = (do
      let ov ← eval o X.env
      standAt apos.atName
      let (f, first) ← holding [ov] (getMethod ov x pl)
      callWith pos f first (backTo pos (starEach (e :: es) X.env)) (backToKw pos (keywordEach [] X.env))) := by rfl)
    (hx : Passes CX0 X E0 := by exact pass0) :
    PE X (.Call (.Attribute o x apos) (e :: es) [] pos) (tSMeth C sp dvs E0 ta t) := by
  obtain ⟨g, fd, ds, S, hd, b, F⟩ := F
  exact pe_sm ho S F (hr.mono hj) b hd hx ha he hpl hev
theorem pe_ksm0 {o : Expr} {apos : Pos} {ta : TE} {dvs : List V} {pl : Sem Bool} (F : Ksm X.prog X.w X.K X.mg X.base C k x ps dvs sp) (hr : Room j X.A)
    (ho : PE X o ta) (hj : k ≤ j := by decide)
    (hev : eval (.Call (.Attribute o x apos) [] [] pos) X.env = (do
      let ov ← eval o X.env
      standAt apos.atName
      let (f, first) ← holding [ov] (getMethod ov x pl)
      callWith pos f first (backTo pos (starEach [] X.env)) (backToKw pos (keywordEach [] X.env))) := by rfl)
    (hx : Passes CX0 X E0 := by exact pass0) :
    PE X (.Call (.Attribute o x apos) [] [] pos) (tSMeth C sp dvs E0 ta tNil) := by
  obtain ⟨g, fd, ds, S, hd, b, F⟩ := F
  exact pe_sm0 ho S F (hr.mono hj) b hd hx hev
end
end L2

/-! own rules 15: operators and comparisons of a class of the program's own -/
namespace PySem.W
open Lean Elab Tactic Meta PySem PySem.Calls PyProof.Rows
section
variable {prog : Program} {w : World} {M : Model} {A : Around} {E : Value → Shared → Prop} {s : Shared} {K : Frag} {x y C L f : Addr} {h₀ : Heap} {m : Str → Option Value} {ox oy : Obj} {od od' : Option Obj} {nm T : String}
/-- both of one class -/
theorem q15_b1C {Q : Value → Shared → Prop} (X : K.In s.heap) (I : InstAt s.heap x ox C od) (J : InstAt s.heap y oy C od') (hc : selfFirst K C = true)
    (hs : findIn K (.ref C) (PySem.dunder nm) = some (some (.ref f))) (hf : isFn K (.ref f) = true)
    (h : wpAny (model prog w) A (call (.ref f) [.ref x, .ref y]) (CmpBack Q) E s) :
    wpAny (model prog w) A (binaryOp1 nm (.ref x) (.ref y)) (fun r s' => ∃ v, r = some v ∧ Q v s') E s := by
  obtain ⟨cd, rest, hcd, hm⟩ := ksp_first hc
  have one := ksp_try X I hs hf h
  obtain ⟨hh, g, d, tt, os⟩ := s
  have L1 : Looks (model prog w) hh (typeOf (.ref x)) (.ref C) := I.type
  have L2 : Looks (model prog w) hh (typeOf (.ref y)) (.ref C) := J.type
  have L3 : Looks (model prog w) hh (fillsNumberSlot (.ref C) nm) true := fills_K X hcd hm hs
  have hne : (Value.ref C == Value.ref C) = true := beq_self_eq_true _
  unfold binaryOp1
  refine wpAny_bind (L1.at (wpAny_bind (L2.at (wpAny_bind (L3.at ?_)))))
  simp only [hne, if_true]
  ksp_lk
  refine wpAny_mono one (fun r s' hr' => ?_) fun _ _ e => e
  obtain ⟨v, rfl, hq⟩ := hr'
  ksp_lk
  exact ⟨_, rfl, hq⟩
theorem q15_binC {op : Operator} {Q : Value → Shared → Prop} (X : K.In s.heap) (I : InstAt s.heap x ox C od) (J : InstAt s.heap y oy C od') (hc : selfFirst K C = true)
    (hs : findIn K (.ref C) (PySem.dunder op.info.2) = some (some (.ref f))) (hf : isFn K (.ref f) = true)
    (h : wpAny (model prog w) A (call (.ref f) [.ref x, .ref y]) (CmpBack Q) E s) : wpAny (model prog w) A (binaryOp op (.ref x) (.ref y)) Q E s := by
  rcases hi : op.info with ⟨sym, nm'⟩
  rw [hi] at hs
  dsimp only at hs
  simp only [binaryOp, hi]
  refine wpAny_holding (wpAny_bind (wpAny_mono (q15_b1C X I J hc hs hf h) (fun r s' hr' => ?_) fun _ _ e => e))
  obtain ⟨v, rfl, hq⟩ := hr'
  exact wpAny_pure hq
/-- a class that stands right below object -/
def plainIn (K : Frag) (C : Addr) : Bool := (clsIn K C).any fun cd => cd.mro == [.ref C, .type "object"]
theorem q15_noI {h : Heap} {add : Bool} (X : K.In h) (hb : plainIn K C = true) (h1 : findIn K (.ref C) (dunderI nm) = some none) (h2 : findIn K (.type "object") (dunderI nm) = some none) :
    Looks M h (fillsInplaceSlot (.ref C) nm add) false := by
  intro A Q E s k q
  obtain ⟨cd, hcd, hm⟩ := any_some hb
  have hm' := beq_iff_eq.mp hm
  have Lm : Looks M h (mroOf (.ref C)) cd.mro := (looks_clsIn X hcd).andThen (f := fun cd => pure cd.mro) .now
  have Lm' := Lm.keeps k
  obtain ⟨hh, g, d, tt, os⟩ := s
  have X' : K.In hh := X.keeps k
  have L1 : Looks M hh (typeLookup (.ref C) (dunderI nm)) none := looks_findIn X' h1
  have L2 : Looks M hh (typeLookup (.type "object") (dunderI nm)) none := looks_findIn X' h2
  unfold fillsInplaceSlot
  refine wpAny_bind (Lm'.at ?_)
  rw [hm', List.anyM_cons]
  refine wpAny_bind ?_
  repeat lk
  exact q
theorem q15_inC {op : Operator} {Q : Value → Shared → Prop} (X : K.In s.heap) (I : InstAt s.heap x ox C od) (J : InstAt s.heap y oy C od') (hc : selfFirst K C = true)
    (hb : plainIn K C = true) (h1 : findIn K (.ref C) (dunderI op.info.2) = some none) (h2 : findIn K (.type "object") (dunderI op.info.2) = some none)
    (hs : findIn K (.ref C) (PySem.dunder op.info.2) = some (some (.ref f))) (hf : isFn K (.ref f) = true)
    (h : wpAny (model prog w) A (call (.ref f) [.ref x, .ref y]) (CmpBack Q) E s) : wpAny (model prog w) A (inplaceOp op (.ref x) (.ref y)) Q E s := by
  have one := q15_b1C X I J hc hs hf h
  obtain ⟨hh, g, d, tt, os⟩ := s
  have L1 : Looks (model prog w) hh (typeOf (.ref x)) (.ref C) := I.type
  have L2 : Looks (model prog w) hh (fillsInplaceSlot (.ref C) op.info.2 (op == .Add)) false := q15_noI X hb h1 h2
  unfold inplaceOp
  refine wpAny_holding ?_
  refine wpAny_bind (L1.at ?_)
  refine wpAny_bind (L2.at ?_)
  simp only [Bool.false_eq_true, if_false]
  refine wpAny_bind (wpAny_mono one (fun r s' hr' => ?_) fun _ _ e => e)
  obtain ⟨v, rfl, hq⟩ := hr'
  exact wpAny_pure hq
/-- an int ahead, the class's own reflected word behind -/
theorem q15_binR {op : Operator} {i : Int} {t : Tok} {g : Addr} {idl : String} {ro : Option Value} {Q : Value → Shared → Prop} (X : K.In s.heap) (J : InstAt s.heap y oy C od') (hc : selfFirst K C = true)
    (hS : Slot "int" (PySem.dunder op.info.2) idl) (hq : isSeqSlot (some (.builtin idl)) = false)
    (hl : ∀ {Q' : Value → Shared → Prop}, Q' .notImplemented s → wpAny (model prog w) A (call (.builtin idl) [.int i t, .ref y]) Q' E s)
    (hR : typeLookup (.type "int") (dunderR op.info.2) = pure ro)
    (h2 : findIn K (.ref C) (PySem.dunder op.info.2) = some (some (.ref g))) (hsub : subIn K (.ref C) (.type "int") = some false)
    (hs : findIn K (.ref C) (dunderR op.info.2) = some (some (.ref f))) (hf : isFn K (.ref f) = true)
    (h : wpAny (model prog w) A (call (.ref f) [.ref y, .int i t]) (CmpBack Q) E s) : wpAny (model prog w) A (binaryOp op (.int i t) (.ref y)) Q E s := by
  obtain ⟨cd, rest, hcd, hm⟩ := ksp_first hc
  have one := ksp_try X J hs hf h
  rcases hi : op.info with ⟨sym, nm'⟩
  rw [hi] at hS hR h2 hs one
  dsimp only at hS hR h2 hs one
  have two : ∀ {Q' : Option Value → Shared → Prop}, Q' none s → wpAny (model prog w) A (tryMethod (.int i t) (PySem.dunder nm') (.ref y)) Q' E s := fun q =>
    wpAny_tryMethod_declines (T := "int") rfl hS (hl ⟨rfl, q⟩)
  have hF : fillsNumberSlot (.type "int") nm' = pure true := fillsNumberSlot_of hS.lookup hq hR
  have hne : (Value.type "int" == Value.ref C) = false := Bool.eq_false_iff.mpr fun q => by cases beq_iff_eq.mp q
  obtain ⟨hh, g', d, tt, os⟩ := s
  have L2 : Looks (model prog w) hh (typeOf (.ref y)) (.ref C) := J.type
  have L3 : Looks (model prog w) hh (fillsNumberSlot (.ref C) nm') true := fills_K X hcd hm h2
  have L5 : Looks (model prog w) hh (isSubtype (.ref C) (.type "int")) false := looks_subIn X hsub
  have hpy : numberSlotInPython (.type "int") nm' = pure false := rfl
  simp only [binaryOp, hi]
  refine wpAny_holding (wpAny_bind ?_)
  unfold binaryOp1
  refine wpAny_bind (wpAny_typeOf (T := "int") rfl (wpAny_bind (L2.at (wpAny_bind (wpAny_of_eq hF ?_)))))
  simp only [hne, Bool.false_eq_true, if_false]
  refine wpAny_bind (L3.at ?_)
  simp only [Bool.and_self, if_true]
  refine wpAny_bind (L5.at ?_)
  simp only [Bool.false_eq_true, if_false, pure_bind, Bool.not_false, Bool.and_self, if_true, hpy]
  refine wpAny_bind (two ?_)
  simp only [Bool.false_eq_true, if_false, pure_bind, Bool.not_false, Bool.and_self, if_true]
  refine wpAny_bind (wpAny_mono one (fun r s' hr' => ?_) fun _ _ e => e)
  obtain ⟨v, rfl, hq⟩ := hr'
  ksp_lk
  exact hq
theorem q15_iadd (i : Int) (t : Tok) (y C dx : Addr) :
    Meets (Builtin.«int.__add__» ⟨[.int i t, .ref y], []⟩) (fun _ R s => s.heap.get? y = some { cls := .ref C, dict := some dx, data := .plain } ∧ R (.ok (.ret Value.notImplemented)) s) :=
  .of_wp fun prog w A R s h => by
    obtain ⟨hp, g, d, tk, os⟩ := s; obtain ⟨hl, h⟩ := h; wp_walk; exact ⟨_, rfl, h⟩
theorem q15_isub (i : Int) (t : Tok) (y C dx : Addr) :
    Meets (Builtin.«int.__sub__» ⟨[.int i t, .ref y], []⟩) (fun _ R s => s.heap.get? y = some { cls := .ref C, dict := some dx, data := .plain } ∧ R (.ok (.ret Value.notImplemented)) s) :=
  .of_wp fun prog w A R s h => by
    obtain ⟨hp, g, d, tk, os⟩ := s; obtain ⟨hl, h⟩ := h; wp_walk; exact ⟨_, rfl, h⟩
open Builtin in
/-- != by the class's own ==, the word of object -/
theorem q15_objNe (hu : A.units < cLine) (X : K.In s.heap) (I : InstAt s.heap x ox C od) (hs : findIn K (.ref C) "__eq__" = some (some (.ref f))) (hf : isFn K (.ref f) = true) {Q : Fin → Shared → Prop}
    (hcall : wpAny (model prog w) A (call (.ref f) [.ref x, .ref y]) (fun v s' => ∃ b, v = .bool b ∧ Q (.done (.ret (.bool (!b)))) s') E s) :
    wpAny (model prog w) A (Builtin.«object.__ne__» ⟨[.ref x, .ref y], []⟩) Q E s := by
  obtain ⟨h, g, d, t, os⟩ := s
  unfold Builtin.«object.__ne__»
  repeat (first
    | with_reducible refine wpAny_cRoomFor hu ?_
    | (refine wpAny_bind (m := callSpecialIfBound? (.ref x) (Str.ofString "__eq__") [.ref y])
        (ifBound_K X I hs hf (wpAny_mono hcall (fun r s' hr => by
          obtain ⟨b, rfl, hq⟩ := hr
          repeat (first | exact hq | exact wpAny_pure hq | exact wpAny_truthy_bool hq | (refine wpAny_bind (m := truthy (.bool _)) (wpAny_truthy_bool ?_)) | wp_step)) fun _ _ e => e)))
    | wp_step)
theorem q15_neB {args : List Value} {Q : Option Value → Shared → Prop} (X : K.In s.heap) (I : InstAt s.heap x ox C od) (hn : findIn K (.ref C) "__ne__" = some (some (.builtin "object.__ne__")))
    (h : wpAny M A (call (.builtin "object.__ne__") (.ref x :: args)) (fun v => Q (some v)) E s) : wpAny M A (callSpecialIfBound? (.ref x) "__ne__" args) Q E s := by
  simp only [callSpecialIfBound?, bindSpecialIfBound?]
  refine wpAny_holding (wpAny_bind (wpAny_bind (wpAny_bind (I.type.here ((looks_findIn X hn).here ?_)))))
  simp only [F.cmp_object.ne.bind]
  refine wpAny_bind (wpAny_askSetting (wpAny_ite ?_))
  have fin : wpAny M A (call (.builtin "object.__ne__") ([.ref x] ++ args) >>= fun v => pure (some v)) Q E s := wpAny_bind (wpAny_mono h (fun v s' h' => wpAny_pure h') fun _ _ h' => h')
  split
  · exact wpAny_bind (wpAny_pure (wpAny_pure (by exact fin)))
  · exact wpAny_tryCatch (wpAny_bind (wpAny_pure (wpAny_pure (by exact fin))))
theorem q15_ne {Q : Value → Shared → Prop} (hu : A.units + 1 < cLine) (X : K.In s.heap) (I : InstAt s.heap x ox C od) (J : InstAt s.heap y oy C od')
    (hn : findIn K (.ref C) "__ne__" = some (some (.builtin "object.__ne__"))) (hs : findIn K (.ref C) "__eq__" = some (some (.ref f))) (hf : isFn K (.ref f) = true) (hO : subIn K (.ref C) (.type "object") = some true)
    (h : wpAny (model prog w) A.in1 (call (.ref f) [.ref x, .ref y]) (fun v s' => ∃ b, v = .bool b ∧ Q (.bool (!b)) s') E s) :
    wpAny (model prog w) A (compareOp .NotEq (.ref x) (.ref y)) Q E s := by
  have one : wpAny (model prog w) A (tryCompare (.ref x) "__ne__" (.ref y)) (fun r s' => ∃ v, r = some v ∧ Q v s') E s := by
    unfold tryCompare
    refine wpAny_bind (q15_neB X I hn (wpAny_call (codeAny_call_builtin F.cmp_object.ne.plain F.cmpEntry_ne
      (@check_slot (model prog w) _ _ s "object.__ne__" "object" "__ne__" (.ref x) [.ref y] [] _ F.cmpKind_ne F.cmpSplit_ne (I.type.andThen (looks_subIn X hO)) (F.cmpArgs_ne _ _)
        (q15_objNe (A := A.in1) hu X I hs hf (wpAny_mono h (fun v s' hv => ?_) fun _ _ e => e))))))
    obtain ⟨b, rfl, hq⟩ := hv
    first | exact ⟨b, rfl, wpAny_pure ⟨_, rfl, hq⟩⟩ | exact ⟨b, rfl, wpAny_pure (wpAny_pure ⟨_, rfl, hq⟩)⟩
  show wpAny _ _ (richCompare .NotEq (.ref x) (.ref y)) _ _ _
  unfold richCompare
  simp only [oneThing_ref]
  refine wpAny_holding ?_
  refine wpAny_bind (wpAny_cRoomFor (Nat.lt_of_succ_lt hu) ?_)
  rw [cmpInfo_NotEq]
  dsimp only
  refine wpAny_bind (I.type.here (wpAny_bind (J.type.here ?_)))
  rw [show (Value.ref C != Value.ref C) = false from by simp]
  simp only [Bool.false_eq_true, if_false]
  refine wpAny_bind (wpAny_pure ?_)
  simp only [Bool.false_eq_true, if_false]
  refine wpAny_bind (wpAny_mono one (fun r s' z => ?_) fun _ _ e => e)
  obtain ⟨v, rfl, hq⟩ := z
  exact wpAny_pure hq
end
end PySem.W

/-! own rules 16: x + y, -x, x < y, x == y, x != y, x += y where x is an object of the program's own class -/
namespace L2
open PySem PySem.Spec PyProof.Rows
section
variable {X : Cx} {pins : List (Addr × Obj)} {σ : St} {H : Hp} {s : Shared}
theorem RelV.back {v : V} {u : Value} (r : RelV v u) : u ≠ .notImplemented := by
  intro z
  subst z
  cases v with
  | non => exact nomatch (show Value.notImplemented = Value.none from r)
  | bl b => exact nomatch (show Value.notImplemented = Value.bool b from r)
  | int i => obtain ⟨t, e⟩ := r; cases e
  | str i => obtain ⟨t, e⟩ := r; cases e
  | byt i => obtain ⟨t, e⟩ := r; cases e
  | flt i => obtain ⟨t, e⟩ := r; cases e
  | ref a => exact nomatch (show Value.notImplemented = Value.ref a from r)
  | ty n => exact nomatch (show Value.notImplemented = Value.type n from r)
theorem ep_back {Q : VK} {u : Value} {s' : Shared} (h : EP X pins σ Q u s') : PySem.W.CmpBack (EP X pins σ Q) u s' := by
  obtain ⟨v, H', I', r, q⟩ := id h
  have nb := r.back
  cases u <;> first | exact absurd rfl nb | exact h
theorem ty_looks {M : Model} {x : V} {u t : Value} (I : Inv X pins σ H s) (rx : RelV x u) (ty : TyOf X.K H x t) : PySem.W.Looks M s.heap (typeOf u) t := by
  cases ty with
  | non => cases (show u = Value.none from rx); exact .of_pure rfl
  | bl y => cases (show u = Value.bool y from rx); exact .of_pure rfl
  | int i => obtain ⟨t, q⟩ := (show ∃ t, u = Value.int i t from rx); cases q; exact .of_pure rfl
  | str y => obtain ⟨t, q⟩ := (show ∃ t, u = Value.str y t from rx); cases q; exact .of_pure rfl
  | flt y => obtain ⟨t, q⟩ := (show ∃ t, u = Value.float y t from rx); cases q; exact .of_pure rfl
  | @lst a xs ea =>
    cases (show u = Value.ref a from rx)
    obtain ⟨_, _, n, _, h1⟩ := (show ObjOk X.prog X.w H s.heap a (.lst xs) from I.hok a _ ea)
    exact (PySem.W.Looks.ld h1).andThen .now
  | @frz a ob xs ea =>
    cases (show u = Value.ref a from rx)
    obtain ⟨_, _, _, n, _, h1⟩ := (show ObjOk X.prog X.w H s.heap a (.frz ob (.lst xs)) from I.hok a _ ea)
    exact (PySem.W.Looks.ld h1).andThen .now
  | @tup a xs ea =>
    cases (show u = Value.ref a from rx)
    obtain ⟨_, _, _, p⟩ := (show ObjOk X.prog X.w H s.heap a (.tup xs) from I.hok a _ ea)
    obtain ⟨o, h1, h2, _⟩ := p
    exact h2 ▸ (PySem.W.Looks.ld h1).andThen .now
  | @dK a kvs ea =>
    cases (show u = Value.ref a from rx)
    obtain ⟨_, _, vs, _, p⟩ := (show ObjOk X.prog X.w H s.heap a (.dK kvs) from I.hok a _ ea)
    obtain ⟨o, es, ep, h1, h2, _⟩ := p
    exact h2.1 ▸ (PySem.W.Looks.ld h1).andThen .now
  | @dT a kvs ea =>
    cases (show u = Value.ref a from rx)
    obtain ⟨_, _, xs, _, o, es, ep, h1, h2, _⟩ := (show ObjOk X.prog X.w H s.heap a (.dT kvs) from I.hok a _ ea)
    exact h2.1 ▸ (PySem.W.Looks.ld h1).andThen .now
  | @ins a C dx fs ea cl ha hn htk hm =>
    cases (show u = Value.ref a from rx)
    obtain ⟨mA, O, _⟩ := ins_get I.hok ea
    obtain ⟨od, J, _⟩ := O.look
    exact J.type
theorem ins_at {C a dx : Addr} {fs : List (Str × V)} (I : Inv X pins σ H s) (e : H a = some (.ins C dx fs)) : ∃ od, PySem.W.InstAt s.heap a (PySem.W.instObj C dx) C (some od) := by
  obtain ⟨mA, O, _⟩ := ins_get I.hok e
  obtain ⟨od, J, _⟩ := O.look
  exact ⟨od, J⟩
end
/-- what a method of a class keeps that Python calls by itself -/
def Kop (P : Program) (w : World) (K : PySem.W.Frag) (mg : Str → Option Value) (base : Heap) (C : Addr) (k : Nat) (nm : Str) (ps : List Str) (sp : Sp) : Prop :=
  ∃ f fd, PySem.W.findIn K (.ref C) nm = some (some (.ref f)) ∧ PySem.W.isFn K (.ref f) = true ∧ Binds K fd ps [] ∧ FnOk P w K mg base CX0 k f fd ps sp
/-- a class that stands right below object -/
structure Plain (K : PySem.W.Frag) (C : Addr) : Prop where
  sf : PySem.W.selfFirst K C = true
  pl : PySem.W.plainIn K C = true
  ob : PySem.W.subIn K (.ref C) (.type "object") = some true
  i1 : PySem.W.subIn K (.type "int") (.ref C) = some false
  i2 : PySem.W.subIn K (.ref C) (.type "int") = some false
/-- one of the class, then an int or one of the class -/
def rOwn (C : Addr) (sp : Sp) : R2 := fun x y H Q => ∃ a dx fs, x = .ref a ∧ H a = some (.ins C dx fs) ∧
  ((∃ i, y = .int i) ∨ ∃ b dy gs, y = .ref b ∧ H b = some (.ins C dy gs)) ∧ sp [x, y] H Q E0
/-- an int, then one of the class: the method is asked the other way round -/
def rOwnR (C : Addr) (sp : Sp) : R2 := fun x y H Q => ∃ b dy gs i, y = .ref b ∧ H b = some (.ins C dy gs) ∧ x = .int i ∧ sp [y, x] H Q E0
/-- one of the class, then any value whose kind is known -/
def rOwnC (K : PySem.W.Frag) (C : Addr) (sp : Sp) : R2 := fun x y H Q => ∃ a dx fs t, x = .ref a ∧ H a = some (.ins C dx fs) ∧ TyOf K H y t ∧ PySem.W.notFirst K C t = true ∧ sp [x, y] H Q E0
def rNeg (C : Addr) (sp : Sp) : V → Hp → VK → Prop := fun x H Q => ∃ a dx fs, x = .ref a ∧ H a = some (.ins C dx fs) ∧ sp [x] H Q E0
/-- - of an int or one of the class -/
def rNegB (C : Addr) (sp : Sp) : V → Hp → VK → Prop := fun x H Q => (∃ i, x = .int i ∧ Q (.int (-i)) H) ∨ rNeg C sp x H Q
/-- != of two of the class, by its own == -/
def rNeO (C : Addr) (sp : Sp) : R2 := fun x y H Q => ∃ a dx fs b dy gs, x = .ref a ∧ H a = some (.ins C dx fs) ∧ y = .ref b ∧ H b = some (.ins C dy gs) ∧
  sp [x, y] H (fun v H' => ∃ k, v = .bl k ∧ Q (.bl (!k)) H') E0
section
variable {X : Cx} {k : Nat} {C : Addr} {sp : Sp} {nm : Str}
theorem run_op {pins : List (Addr × Obj)} {σ : St} {H : Hp} {s : Shared} {Q : VK} {us : List Value} {vs : List V} {f : Addr} {fd : FuncData} {ps : List Str}
    (F : FnOk X.prog X.w X.K X.mg X.base CX0 k f fd ps sp) (hr : Room k X.A) (hb : Binds X.K fd ps []) (I : Inv X pins σ H s) (r : Vals vs us) (h : sp vs H Q E0) (hx : Passes CX0 X E0) :
    wpAny (model X.prog X.w) X.A (call (.ref f) us) (PySem.W.CmpBack (EP X pins σ Q)) X.xe s :=
  wpAny_mono (run_fn (ds := []) (dvs := []) F hr hb .nil hx I r (by simpa using h)) (fun u s' z => ep_back z) fun _ _ z => z
theorem op_own {op : Operator} {fo ro rc : Option Value} {nr : Str} (P : Plain X.K C) (G : Kop X.prog X.w X.K X.mg X.base C k nm ["self", "other"] sp) (hr : Room k X.A)
    (hR' : PySem.W.findIn X.K (.ref C) nr = some rc) (hp : rc = none ∨ ∃ g : Addr, rc = some (.ref g)) (e1 : PySem.dunder op.info.2 = nm := by decide +kernel) (e2 : dunderR op.info.2 = nr := by decide +kernel)
    (h1 : PySem.W.findIn X.K (.type "int") (PySem.dunder op.info.2) = some fo) (h2 : PySem.W.findIn X.K (.type "int") (dunderR op.info.2) = some ro)
    (hx : Passes CX0 X E0 := by exact pass0) : OpR X (binaryOp op) (rOwn C sp) := by
  subst e1 e2
  have hR := hR'
  obtain ⟨f, fd, hs, hf, hb, F⟩ := G
  intro pins s σ H x y v u Q I rx ry h
  obtain ⟨a, dx, fs, rfl, ha, hy, q⟩ := h
  cases (show v = Value.ref a from rx)
  obtain ⟨od, J⟩ := ins_at I ha
  have run := run_op F hr hb I (us := [.ref a, u]) (vs := [.ref a, y]) (.cons rfl (.cons ry .nil)) q hx
  rcases hy with ⟨i, rfl⟩ | ⟨b, dy, gs, rfl, hb'⟩
  · obtain ⟨t, e⟩ := (show ∃ t, u = Value.int i t from ry)
    cases e
    obtain ⟨m, hF⟩ := I.fr
    exact PySem.W.ksp_binT hF I.ok.mod.kin J rfl P.sf hs hf hR hp h1 h2 P.i1 run
  · cases (show u = Value.ref b from ry)
    obtain ⟨od', J'⟩ := ins_at I hb'
    exact PySem.W.q15_binC I.kIn J J' P.sf hs hf run
theorem op_ownR {op : Operator} {idl : String} {ro : Option Value} {g : Addr} {nr : Str} (P : Plain X.K C) (G : Kop X.prog X.w X.K X.mg X.base C k nr ["self", "other"] sp) (hr : Room k X.A)
    (h2' : PySem.W.findIn X.K (.ref C) nm = some (some (.ref g))) (e1 : PySem.dunder op.info.2 = nm := by decide +kernel) (e2 : dunderR op.info.2 = nr := by decide +kernel)
    (hS : Slot "int" (PySem.dunder op.info.2) idl) (hq : PySem.isSeqSlot (some (.builtin idl)) = false) (hR : typeLookup (.type "int") (dunderR op.info.2) = pure ro)
    (hl : ∀ (A : Around) (E : Value → Shared → Prop) (s : Shared) (i : Int) (t : Tok) (y dx : Addr) (Q' : Value → Shared → Prop), s.heap.get? y = some (PySem.W.instObj C dx) → Q' .notImplemented s →
      wpAny (model X.prog X.w) A (call (.builtin idl) [.int i t, .ref y]) Q' E s)
    (hx : Passes CX0 X E0 := by exact pass0) : OpR X (binaryOp op) (rOwnR C sp) := by
  subst e1 e2
  have h2 := h2'
  obtain ⟨f, fd, hs, hf, hb, F⟩ := G
  intro pins s σ H x y v u Q I rx ry h
  obtain ⟨b, dy, gs, i, rfl, hb', rfl, q⟩ := h
  cases (show u = Value.ref b from ry)
  obtain ⟨od', J'⟩ := ins_at I hb'
  have run := run_op F hr hb I (us := [.ref b, v]) (vs := [.ref b, .int i]) (.cons rfl (.cons rx .nil)) q hx
  obtain ⟨t, e⟩ := (show ∃ t, v = Value.int i t from rx)
  cases e
  exact PySem.W.q15_binR I.kIn J' P.sf hS hq (fun {Q'} z => hl _ _ _ _ _ _ _ _ J'.at_ z) hR h2 P.i2 hs hf run
theorem ip_own {op : Operator} {ni : Str} (P : Plain X.K C) (G : Kop X.prog X.w X.K X.mg X.base C k nm ["self", "other"] sp) (hr : Room k X.A)
    (h1' : PySem.W.findIn X.K (.ref C) ni = some none) (e1 : PySem.dunder op.info.2 = nm := by decide +kernel) (e2 : dunderI op.info.2 = ni := by decide +kernel) (h2 : PySem.W.findIn X.K (.type "object") (dunderI op.info.2) = some none)
    (hx : Passes CX0 X E0 := by exact pass0) : OpR X (inplaceOp op) (fun x y H Q => ∃ b dy gs, y = .ref b ∧ H b = some (.ins C dy gs) ∧ rOwn C sp x y H Q) := by
  subst e1 e2
  have h1 := h1'
  obtain ⟨f, fd, hs, hf, hb, F⟩ := G
  intro pins s σ H x y v u Q I rx ry h
  obtain ⟨b, dy, gs, rfl, hb', a, dx, fs, rfl, ha, _, q⟩ := h
  cases (show v = Value.ref a from rx)
  cases (show u = Value.ref b from ry)
  obtain ⟨od, J⟩ := ins_at I ha
  obtain ⟨od', J'⟩ := ins_at I hb'
  have run := run_op F hr hb I (us := [.ref a, .ref b]) (vs := [.ref a, .ref b]) (.cons rfl (.cons rfl .nil)) q hx
  exact PySem.W.q15_inC I.kIn J J' P.sf P.pl h1 h2 hs hf run
theorem un_negO (G : Kop X.prog X.w X.K X.mg X.base C k "__neg__" ["self"] sp) (hr : Room k X.A) (hx : Passes CX0 X E0 := by exact pass0) : UnR X (unaryOp .USub) (rNegB C sp) := by
  obtain ⟨f, fd, hs, hf, hb, F⟩ := G
  intro pins s σ H x v Q I rx h
  rcases h with h | ⟨a, dx, fs, rfl, ha, q⟩
  · exact un_neg pins s σ H x v Q I rx h
  · cases (show v = Value.ref a from rx)
    obtain ⟨od, J⟩ := ins_at I ha
    obtain ⟨m, hF⟩ := I.fr
    exact PySem.W.ksp_neg hF I.ok.mod.kin J hs hf (run_fn (us := [.ref a]) (vs := [.ref a]) (ds := []) (dvs := []) F hr hb .nil hx I (.cons rfl .nil) (by simpa using q))
theorem op_cmp {op : CmpOp} (G : Kop X.prog X.w X.K X.mg X.base C k (cmpInfo op).2.1 ["self", "other"] sp) (hr : Room k X.A)
    (ho : ∀ u v, compareOp op u v = richCompare op u v := by intros; rfl) (hx : Passes CX0 X E0 := by exact pass0) : OpR X (compareOp op) (rOwnC X.K C sp) := by
  obtain ⟨f, fd, hs, hf, hb, F⟩ := G
  intro pins s σ H x y v u Q I rx ry h
  obtain ⟨a, dx, fs, t, rfl, ha, ty, nf, q⟩ := h
  cases (show v = Value.ref a from rx)
  obtain ⟨od, J⟩ := ins_at I ha
  obtain ⟨m, hF⟩ := I.fr
  rw [ho]
  exact PySem.W.cmp_K hr.units0 hF I.ok.mod.kin J (ty_looks I ry ty) nf hs hf (run_op F hr hb I (us := [.ref a, u]) (vs := [.ref a, y]) (.cons rfl (.cons ry .nil)) q hx)
theorem op_neO (P : Plain X.K C) (G : Kop X.prog X.w X.K X.mg X.base C k "__eq__" ["self", "other"] sp) (hr : Room (k + 1) X.A)
    (hn : PySem.W.findIn X.K (.ref C) "__ne__" = some (some (.builtin "object.__ne__"))) (hx : Passes CX0 X E0 := by exact pass0) : OpR X (compareOp .NotEq) (rNeO C sp) := by
  obtain ⟨f, fd, hs, hf, hb, F⟩ := G
  intro pins s σ H x y v u Q I rx ry h
  obtain ⟨a, dx, fs, b, dy, gs, rfl, ha, rfl, hb', q⟩ := h
  cases (show v = Value.ref a from rx)
  cases (show u = Value.ref b from ry)
  obtain ⟨od, J⟩ := ins_at I ha
  obtain ⟨od', J'⟩ := ins_at I hb'
  refine PySem.W.q15_ne (by have := hr.un; omega) I.kIn J J' hn hs hf P.ob ?_
  have e0 : Env0 X.prog X.w X.K X.mg X.base X.A.in1 X.stack s H := by
    have e := I.env0
    exact ⟨e.frames, e.mod, e.bs, e.bsz, e.funs, e.frf, e.hok, e.bare⟩
  have hl := F.len _ _ _ _ q
  have r2 : Vals [V.ref a, V.ref b] [Value.ref a, Value.ref b] := .cons rfl (.cons rfl .nil)
  refine wpAny_call (codeAny_mono (F.run X.A.in1 X.stack s H ⟨[.ref a, .ref b], []⟩ [.ref a, .ref b] [.ref a, .ref b] _ E0 hr.in1 e0 (by
    have := hb s [.ref a, .ref b] I.kIn (by simpa using hl)
    simpa using this) r2 q) fun r s' hq => ?_)
  cases r with
  | error e => exact hx pins σ H s e s' I hq
  | ok fl =>
    cases fl with
    | ret w =>
      obtain ⟨z, H', I', rz, k', ez, ex⟩ := I.after hq
      subst ez
      cases rz
      exact ⟨k', rfl, .bl (!k'), H', I', rfl, ex⟩
    | next => exact False.elim hq
    | brk => exact False.elim hq
    | cont => exact False.elim hq
end
section
variable {K : PySem.W.Frag} {x qual : Str} {params : Arguments} {body : List Stmt} {scope : Scope} {dvs : List V} {f : Addr} {fd : FuncData} {ps : List Str}
/-- f(e, .., k = v, ..) of a def with defaults, no keyword-only parameters -/
theorem FunD.kb1 (F : FunD K x qual params body scope dvs [] f fd) (n : Nat) (ks : List Str) (g : {α : Type} → List α → List α → List α → List α) (hd : dvs ≠ [])
    (hrel : ∀ {vs ds zs : List V} {us its ws : List Value}, Vals vs us → Vals ds its → Vals zs ws → Vals (g vs ds zs) (g us its ws))
    (h : ∀ (T : Addr) (kV doc pm : Value) (an : Option Addr) (cdv ct : Value) (us its ws : List Value), us.length = n → its.length = dvs.length → ws.length = ks.length →
      ∃ k, bindArgs (PySem.W.fnOf x qual params body scope (.ref T) kV doc pm an cdv ct) ⟨us, ks.zip ws⟩ = seqItems? (.ref T) >>= k ∧ k (some its.toArray) = pure (ps.zip (g us its ws))) :
    ∃ its : List Value, KBn K fd ps n ks (fun us ws => g us its ws) (fun vs zs => g vs dvs zs) := by
  obtain ⟨oc, od, dV, kV, doc, pm, an, cdv, ct, osl, rfl, lk, hcd, hD, hK⟩ := F.ex
  rcases hD with ⟨e, _⟩ | ⟨_, T, o, its, m, rfl, lT, oT, rT⟩
  · exact absurd e hd
  · refine ⟨its, ⟨fun s us ws X l1 l2 => ?_, fun r1 r2 => hrel r1 rT r2⟩⟩
    obtain ⟨k, e1, e2⟩ := h T kV doc pm an cdv ct us its ws l1 rT.length.symm l2
    refine BindsTo.of_looks fun M => ?_
    rw [e1]
    exact looks_items X lT oT (.of_pure e2)
end
/-- what making an object by keywords keeps -/
def KmkK (P : Program) (w : World) (K : PySem.W.Frag) (mg : Str → Option Value) (base : Heap) (C : Addr) (k : Nat) (ps ks : List Str) (gV : List V → List V → List V) (sp : Sp) : Prop :=
  ∃ f fd g, Mk K C f ∧ KBn K fd ps 1 ks g gV ∧ FnOk P w K mg base CX0 k f fd ps sp
section
variable {X : Cx} {k j : Nat} {ps ks : List Str} {sp : Sp} {x : Str} {p pos : Pos} {kws : List Keyword} {tk : TA} {C : Addr} {gV : List V → List V → List V}
theorem pe_kmkK (F : KmkK X.prog X.w X.K X.mg X.base C k ps ks gV sp) (hr : Room j X.A) (hg : Gl X x) (hm : X.mg x = some (.ref C)) (hkw : PK X kws tk) (hj : k + 1 ≤ j := by decide)
    (hall : (backToKw pos (keywordEach kws X.env)).all (·.1.isSome) = true := by rfl) (hks : (backToKw pos (keywordEach kws X.env)).filterMap (·.1) = ks := by rfl) (hdb : (x == ("__debug__" : Str)) = false := by decide)
    (hpl : ((backTo pos (starEach [] X.env)).any (·.1) || (backToKw pos (keywordEach kws X.env)).any (·.1.isNone)) = false := by rfl) (hx : Passes CX0 X E0 := by exact pass0) :
    PE X (.Call (.Name x p) [] kws pos) (tMakeK C 0 ks.length sp gV E0 tNil tk) := by
  obtain ⟨f, fd, g, M, b, F⟩ := F
  exact pe_makeK0 M F (hr.mono hj) hg hm b hx hkw hall hks hdb hpl
end
end L2

namespace KR
/-- u / l is n / d in least terms -/
def Nrm (u l n d : Int) : Prop := 0 < l ∧ Int.gcd u l = 1 ∧ u * d = n * l
theorem nrm_mk {n d g : Int} (hg : g = ((Nat.gcd n.natAbs d.natAbs : Nat) : Int)) (hd : 0 < d) : 0 < g ∧ Nrm (n / g) (d / g) n d ∧ g.natAbs ≤ d.natAbs := by
  have e : g = (Int.gcd n d : Int) := hg
  have g0 : 0 < Int.gcd n d := Int.gcd_pos_of_ne_zero_right n (by omega)
  have dn : g ∣ n := e ▸ Int.gcd_dvd_left n d
  have dd : g ∣ d := e ▸ Int.gcd_dvd_right n d
  have gp : 0 < g := by omega
  obtain ⟨u, hu⟩ := dn
  obtain ⟨l, hl⟩ := dd
  have e1 : n / g = u := by rw [hu]; exact Int.mul_ediv_cancel_left u (by omega)
  have e2 : d / g = l := by rw [hl]; exact Int.mul_ediv_cancel_left l (by omega)
  have l0 : 0 < l := by
    rw [hl] at hd
    exact Int.pos_of_mul_pos_right hd (by omega)
  refine ⟨gp, ⟨by rw [e2]; exact l0, ?_, ?_⟩, ?_⟩
  · rw [e]
    exact Int.gcd_ediv_gcd_ediv_gcd (by omega)
  · rw [e1, e2, hu, hl]
    grind
  · have := Int.le_of_dvd hd ⟨l, hl⟩
    omega
theorem cop_left {k m n : Int} (g : Int.gcd k m = 1) (h : k ∣ m * n) : k ∣ n := by
  have g' : Nat.Coprime k.natAbs m.natAbs := g
  have h' : k.natAbs ∣ m.natAbs * n.natAbs := by
    rw [← Int.natAbs_mul]
    exact Int.natAbs_dvd_natAbs.mpr h
  exact Int.natAbs_dvd_natAbs.mp (g'.dvd_of_dvd_mul_left h')
theorem nrm_le {u l n d : Int} (h : Nrm u l n d) (hd : 0 < d) : u.natAbs ≤ n.natAbs ∧ l.natAbs ≤ d.natAbs := by
  obtain ⟨l0, g1, e⟩ := h
  have dl : l ∣ d := by
    have : l ∣ u * d := ⟨n, by rw [e, Int.mul_comm]⟩
    exact cop_left (by rw [Int.gcd_comm]; exact g1) this
  have du : u ∣ n := by
    have : u ∣ l * n := ⟨d, by rw [Int.mul_comm, ← e]⟩
    exact cop_left g1 this
  have h2 := Int.le_of_dvd hd dl
  constructor
  · by_cases n0 : n = 0
    · subst n0
      have : u = 0 := by
        have q : u * d = 0 := by rw [e]; omega
        rcases Int.mul_eq_zero.mp q with q | q <;> omega
      subst this
      omega
    · exact Nat.le_of_dvd (by omega) (Int.natAbs_dvd_natAbs.mpr du)
  · omega
/-- least terms are the fraction's own -/
theorem nrm_uniq {u l u' l' n d n' d' : Int} (h : Nrm u l n d) (h' : Nrm u' l' n' d') (hd : 0 < d) (hd' : 0 < d') (e : n * d' = n' * d) : u = u' ∧ l = l' := by
  obtain ⟨l0, g1, e1⟩ := h
  obtain ⟨l0', g1', e2⟩ := h'
  have c : u * l' = u' * l := by
    have q : (u * l') * (d * d') = (u' * l) * (d * d') := by grind
    exact Int.eq_of_mul_eq_mul_right (by have := Int.mul_pos hd hd'; omega) q
  have a : l ∣ l' := by
    have : l ∣ u * l' := ⟨u', by rw [c, Int.mul_comm]⟩
    exact cop_left (by rw [Int.gcd_comm]; exact g1) this
  have b : l' ∣ l := by
    have : l' ∣ u' * l := ⟨u, by rw [← c, Int.mul_comm]⟩
    exact cop_left (by rw [Int.gcd_comm]; exact g1') this
  have ll : l = l' := by
    have := Int.le_of_dvd l0' a
    have := Int.le_of_dvd l0 b
    omega
  subst ll
  exact ⟨Int.eq_of_mul_eq_mul_right (by omega) c, rfl⟩
theorem nrm_self {u l : Int} (l0 : 0 < l) (g : Int.gcd u l = 1) : Nrm u l u l := ⟨l0, g, rfl⟩
end KR
namespace KR
theorem sgn {r D N s : Int} (e : r * D = N * s) (hD : 0 < D) (hs : 0 < s) : (0 < r ↔ 0 < N) ∧ (r < 0 ↔ N < 0) := by
  have key : ∀ {a b c d : Int}, a * b = c * d → 0 < b → 0 < d → 0 < a → 0 < c := by
    intro a b c d e hb hd ha
    have h1 := Int.mul_pos ha hb
    rcases Int.lt_or_le 0 c with h | h
    · exact h
    · have h2 := Int.mul_le_mul_of_nonneg_right h (Int.le_of_lt hd)
      rw [Int.zero_mul] at h2
      omega
  have e' : (-r) * D = (-N) * s := by rw [Int.neg_mul, Int.neg_mul, e]
  refine ⟨⟨key e hD hs, key e.symm hs hD⟩, ⟨fun h => ?_, fun h => ?_⟩⟩
  · have := key e' hD hs (by omega)
    omega
  · have := key e'.symm hs hD (by omega)
    omega
theorem sub_nrm {r s u l p q u2 l2 : Int} (h : Nrm r s (u * l2 + u2 * l) (l * l2)) (h2 : Nrm u2 l2 (-p) q) : Nrm r s (u * q - p * l) (l * q) := by
  obtain ⟨a, b, e⟩ := h
  obtain ⟨a2, b2, e2⟩ := h2
  refine ⟨a, b, ?_⟩
  have q1 : (r * (l * q)) * l2 = ((u * q - p * l) * s) * l2 := by grind
  exact Int.eq_of_mul_eq_mul_right (by omega) q1
theorem rsub_nrm {r s u l k u2 l2 : Int} (h : Nrm r s (u2 * 1 + k * l2) (l2 * 1)) (h2 : Nrm u2 l2 (-u) l) : Nrm r s (k * l - u) l := by
  obtain ⟨a, b, e⟩ := h
  obtain ⟨a2, b2, e2⟩ := h2
  refine ⟨a, b, ?_⟩
  have q1 : (r * l) * l2 = ((k * l - u) * s) * l2 := by grind
  exact Int.eq_of_mul_eq_mul_right (by omega) q1
/-- another way to write the fraction -/
theorem nrm_re {u l n d n' d' : Int} (h : Nrm u l n d) (hd : 0 < d) (e : n * d' = n' * d) : Nrm u l n' d' := by
  obtain ⟨a, b, c⟩ := h
  refine ⟨a, b, ?_⟩
  have q1 : (u * d') * d = (n' * l) * d := by grind
  exact Int.eq_of_mul_eq_mul_right (by omega) q1
theorem cross {u l p q a b c d : Int} (h : Nrm u l a b) (h' : Nrm p q c d) (hb : 0 < b) (hd : 0 < d) : (u * q < p * l ↔ a * d < c * b) ∧ (p * l < u * q ↔ c * b < a * d) := by
  obtain ⟨l0, _, e⟩ := h
  obtain ⟨q0, _, e'⟩ := h'
  have k : (u * q - p * l) * (b * d) = (a * d - c * b) * (l * q) := by grind
  have := sgn k (Int.mul_pos hb hd) (Int.mul_pos l0 q0)
  omega
theorem floor_nrm {u l a b : Int} (h : Nrm u l a b) (hb : 0 < b) : u / l = a / b := by
  obtain ⟨l0, _, e⟩ := h
  have h1 : u / l = (u * b) / (l * b) := (Int.mul_ediv_mul_of_pos_left u l hb).symm
  have h2 : a / b = (a * l) / (b * l) := (Int.mul_ediv_mul_of_pos_left a b l0).symm
  rw [h1, h2, e, Int.mul_comm l b]
end KR

namespace KR
open PySem L2
local macro_rules | `(tactic| walk_at "hp") => `(tactic| first
  | assumption
  | exact upd_same
  | (refine upd_new (by assumption) ?_; walk_at "hp")
  | (refine upd_oth (by first | assumption | (apply Ne.symm; assumption)) ?_; walk_at "hp"))
def top (i : Nat) : Stmt := PySem.Challenge.pw_headgap_k31_rates_made_and_reckoned.main.body.getD i (.Pass ⟨0, 0, 0, 0⟩)
abbrev s_isint : Stmt := top 8
abbrev n_isint : List Str := ["value"]
theorem sc_isint : FnScope n_isint ["value"] (defScope s_isint) :=
  ⟨rfl, rfl, rfl, by decide +kernel, rfl, by decide +kernel, by decide +kernel⟩

abbrev s_init : Stmt := inClass (top 11) 0
abbrev n_init : List Str := ["self", "upper", "lower", "part"]
theorem sc_init : FnScope n_init ["self", "upper", "lower"] (defScope s_init) :=
  ⟨rfl, rfl, rfl, by decide +kernel, rfl, by decide +kernel, by decide +kernel⟩

abbrev s_floor : Stmt := inClass (top 11) 2
abbrev n_floor : List Str := ["self"]
theorem sc_floor : FnScope n_floor ["self"] (defScope s_floor) :=
  ⟨rfl, rfl, rfl, by decide +kernel, rfl, by decide +kernel, by decide +kernel⟩

abbrev s_eq : Stmt := inClass (top 11) 3
abbrev n_eq : List Str := ["self", "other"]
theorem sc_eq : FnScope n_eq ["self", "other"] (defScope s_eq) :=
  ⟨rfl, rfl, rfl, by decide +kernel, rfl, by decide +kernel, by decide +kernel⟩

abbrev s_lt : Stmt := inClass (top 11) 4
abbrev n_lt : List Str := ["self", "other"]
theorem sc_lt : FnScope n_lt ["self", "other"] (defScope s_lt) :=
  ⟨rfl, rfl, rfl, by decide +kernel, rfl, by decide +kernel, by decide +kernel⟩

abbrev s_le : Stmt := inClass (top 11) 5
abbrev n_le : List Str := ["self", "other"]
theorem sc_le : FnScope n_le ["self", "other"] (defScope s_le) :=
  ⟨rfl, rfl, rfl, by decide +kernel, rfl, by decide +kernel, by decide +kernel⟩

abbrev s_gt : Stmt := inClass (top 11) 6
abbrev n_gt : List Str := ["self", "other"]
theorem sc_gt : FnScope n_gt ["self", "other"] (defScope s_gt) :=
  ⟨rfl, rfl, rfl, by decide +kernel, rfl, by decide +kernel, by decide +kernel⟩

abbrev s_ge : Stmt := inClass (top 11) 7
abbrev n_ge : List Str := ["self", "other"]
theorem sc_ge : FnScope n_ge ["self", "other"] (defScope s_ge) :=
  ⟨rfl, rfl, rfl, by decide +kernel, rfl, by decide +kernel, by decide +kernel⟩

abbrev s_add : Stmt := inClass (top 11) 8
abbrev n_add : List Str := ["self", "other"]
theorem sc_add : FnScope n_add ["self", "other"] (defScope s_add) :=
  ⟨rfl, rfl, rfl, by decide +kernel, rfl, by decide +kernel, by decide +kernel⟩

abbrev s_radd : Stmt := inClass (top 11) 9
abbrev n_radd : List Str := ["self", "other"]
theorem sc_radd : FnScope n_radd ["self", "other"] (defScope s_radd) :=
  ⟨rfl, rfl, rfl, by decide +kernel, rfl, by decide +kernel, by decide +kernel⟩

abbrev s_neg : Stmt := inClass (top 11) 10
abbrev n_neg : List Str := ["self"]
theorem sc_neg : FnScope n_neg ["self"] (defScope s_neg) :=
  ⟨rfl, rfl, rfl, by decide +kernel, rfl, by decide +kernel, by decide +kernel⟩

abbrev s_sub : Stmt := inClass (top 11) 11
abbrev n_sub : List Str := ["self", "other"]
theorem sc_sub : FnScope n_sub ["self", "other"] (defScope s_sub) :=
  ⟨rfl, rfl, rfl, by decide +kernel, rfl, by decide +kernel, by decide +kernel⟩

abbrev s_rsub : Stmt := inClass (top 11) 12
abbrev n_rsub : List Str := ["self", "other"]
theorem sc_rsub : FnScope n_rsub ["self", "other"] (defScope s_rsub) :=
  ⟨rfl, rfl, rfl, by decide +kernel, rfl, by decide +kernel, by decide +kernel⟩

abbrev s_mul : Stmt := inClass (top 11) 13
abbrev n_mul : List Str := ["self", "other"]
theorem sc_mul : FnScope n_mul ["self", "other"] (defScope s_mul) :=
  ⟨rfl, rfl, rfl, by decide +kernel, rfl, by decide +kernel, by decide +kernel⟩

abbrev s_lpen : Stmt := top 13
abbrev n_lpen : List Str := ["_law_script"]
theorem sc_lpen : FnScope n_lpen ["_law_script"] (defScope s_lpen) :=
  ⟨rfl, rfl, rfl, by decide +kernel, rfl, by decide +kernel, by decide +kernel⟩

abbrev s_ldraw : Stmt := top 14
abbrev n_ldraw : List Str := ["_law_pen_here", "_law_many", "_law_digit", "_law_used", "_law_cell", "_law_great", "_law_mixed"]
theorem sc_ldraw : FnScope n_ldraw ["_law_pen_here", "_law_many"] (defScope s_ldraw) :=
  ⟨rfl, rfl, rfl, by decide +kernel, rfl, by decide +kernel, by decide +kernel⟩

abbrev s_lpick : Stmt := top 15
abbrev n_lpick : List Str := ["_law_pen_here", "_law_some"]
theorem sc_lpick : FnScope n_lpick ["_law_pen_here", "_law_some"] (defScope s_lpick) :=
  ⟨rfl, rfl, rfl, by decide +kernel, rfl, by decide +kernel, by decide +kernel⟩

abbrev s_lnumber : Stmt := top 16
abbrev n_lnumber : List Str := ["_law_pen_here", "_law_size"]
theorem sc_lnumber : FnScope n_lnumber ["_law_pen_here"] (defScope s_lnumber) :=
  ⟨rfl, rfl, rfl, by decide +kernel, rfl, by decide +kernel, by decide +kernel⟩

abbrev s_ldivisor : Stmt := top 17
abbrev n_ldivisor : List Str := ["_law_one", "_law_other", "_law_first", "_law_second"]
theorem sc_ldivisor : FnScope n_ldivisor ["_law_one", "_law_other"] (defScope s_ldivisor) :=
  ⟨rfl, rfl, rfl, by decide +kernel, rfl, by decide +kernel, by decide +kernel⟩

abbrev s_lis : Stmt := top 18
abbrev n_lis : List Str := ["_law_rate", "_law_upper", "_law_lower", "_law_common"]
theorem sc_lis : FnScope n_lis ["_law_rate", "_law_upper", "_law_lower"] (defScope s_lis) :=
  ⟨rfl, rfl, rfl, by decide +kernel, rfl, by decide +kernel, by decide +kernel⟩

abbrev s_lsums : Stmt := top 19
abbrev n_lsums : List Str := ["_law_one", "_law_other", "_law_a", "_law_b", "_law_c", "_law_d", "_law_held", "_law_less", "_law_told", "_law_left", "_law_right"]
theorem sc_lsums : FnScope n_lsums ["_law_one", "_law_other", "_law_a", "_law_b", "_law_c", "_law_d"] (defScope s_lsums) :=
  ⟨rfl, rfl, rfl, by decide +kernel, rfl, by decide +kernel, by decide +kernel⟩

abbrev s_lwhole : Stmt := top 20
abbrev n_lwhole : List Str := ["_law_one", "_law_a", "_law_b", "_law_k", "_law_told"]
theorem sc_lwhole : FnScope n_lwhole ["_law_one", "_law_a", "_law_b", "_law_k"] (defScope s_lwhole) :=
  ⟨rfl, rfl, rfl, by decide +kernel, rfl, by decide +kernel, by decide +kernel⟩

abbrev s_law : Stmt := top 21
abbrev n_law : List Str := ["_law_script", "_law_pen_here", "_law_turn", "_law_a", "_law_b", "_law_c", "_law_d", "_law_k", "_law_by", "_law_one", "_law_other", "_law_odd"]
theorem sc_law : FnScope n_law ["_law_script"] (defScope s_law) :=
  ⟨rfl, rfl, rfl, by decide +kernel, rfl, by decide +kernel, by decide +kernel⟩

def blts : List Str := ["len", "repr", "isinstance", "abs", "int", "list", "range", "tuple", "bool", "all", "any", "max", "min"]
/-- the pen at p: its cells are ns, at most n draws are done -/
def PenAt (H : Hp) (p c : Addr) (ns : List Int) (n : Nat) : Prop :=
  ∃ (t g : Int), H p = some (.lst [.ref c, .int t, .int g]) ∧ H c = some (.lst (ns.map V.int)) ∧ c ≠ p ∧ 0 ≤ t ∧ t ≤ n
def spPen (K : PySem.W.Frag) : Sp := fun vs H Q _ => ∃ (a : Addr) (ns : List Int), vs = [.ref a] ∧
  SqL K H a (ns.map V.int) ∧ ns.length ≤ 63 ∧
  ∀ (p c : Addr) (H' : Hp), H p = none → H c = none → Same H H' → PenAt H' p c ns 0 → Q (.ref p) H'
def spDraw : Sp := fun vs H Q _ => ∃ (p c : Addr) (many : Int) (ns : List Int) (n : Nat),
  vs = [.ref p, .int many] ∧ PenAt H p c ns n ∧ ns.length ≤ 63 ∧ 1 ≤ many ∧ many.natAbs < 2 ^ 300 ∧ n < 1000000 ∧
  ∀ (r : Int) (H' : Hp), 0 ≤ r → r < many → PenAt H' p c ns (n + 1) → But p H H' → Q (.int r) H'
structure Txt (K : PySem.W.Frag) (mg : Str → Option Value) : Prop where
  nb : ∀ x ∈ blts, mg x = none
  d_isint : OwnD K mg "is_integer" s_isint ["value"]
  d_pen : OwnD K mg "_law_pen" s_lpen ["_law_script"]
  d_draw : OwnD K mg "_law_draw" s_ldraw ["_law_pen_here", "_law_many"]
  d_pick : OwnD K mg "_law_pick" s_lpick ["_law_pen_here", "_law_some"]
  d_number : OwnD K mg "_law_number" s_lnumber ["_law_pen_here"]
  d_divisor : OwnD K mg "_law_divisor" s_ldivisor ["_law_one", "_law_other"]
  d_lis : OwnD K mg "_law_is" s_lis ["_law_rate", "_law_upper", "_law_lower"]
  d_lsums : OwnD K mg "_law_sums_right" s_lsums ["_law_one", "_law_other", "_law_a", "_law_b", "_law_c", "_law_d"]
  d_lwhole : OwnD K mg "_law_whole_right" s_lwhole ["_law_one", "_law_a", "_law_b", "_law_k"]
  d_law : OwnD K mg "law" s_law ["_law_script"]
/-- a // b by a great b -/
def rDivX : R2 := fun x y H Q => ∃ i j, x = .int i ∧ y = .int j ∧ 0 < j ∧ j.natAbs < 2 ^ 300 ∧
  ∀ q r, i = j * q + r → 0 ≤ r → r < j → Q (.int q) H
theorem op_divX {X : Cx} : OpR X (binaryOp .FloorDiv) rDivX := by
  intro pins s σ H x y v u Q I rx ry h
  obtain ⟨i, j, ex, ey, hj, h2, h⟩ := h
  have e := Int.emod_add_mul_ediv i j
  exact op_fdivW pins s σ H x y v u Q I rx ry ⟨i, j, ex, ey, wide_div hj h2 (by decide) (by decide), h _ (i % j) (by omega) (Int.emod_nonneg _ (by omega)) (Int.emod_lt_of_pos _ hj)⟩
section
variable {P : Program} {w : World} {K : PySem.W.Frag} {mg : Str → Option Value} {base : Heap}
theorem eqv_nil (ds : List PyData) : PyData.eqv (.list ds) (.list []) = ds.isEmpty := by
  cases ds <;> simp [PyData.eqv, PyData.eqvAll]
theorem shaped_ints (ns : List Int) : SeqAt.shaped (.list (ns.map PyData.int)) = true := by
  have h1 : ∀ l : List Int, PyData.canLayAll0 (l.map PyData.int) = true := by
    intro l
    induction l with
    | nil => simp [PyData.canLayAll0]
    | cons a l ih => simp [PyData.canLayAll0, PyData.canLay0, ih]
  have h2 : ∀ l : List Int, PyData.depthAll (l.map PyData.int) ≤ 1 := by
    intro l
    induction l with
    | nil => simp [PyData.depthAll]
    | cons a l ih => simp [PyData.depthAll, PyData.depth]; omega
  unfold SeqAt.shaped
  have := h2 ns
  simp [PyData.canLay0, PyData.depth, h1]
  omega
theorem kp_draw (T : Txt K mg) : Kf P w K mg base 1 "_law_draw" ["_law_pen_here", "_law_many"] spDraw := by
  refine T.d_draw.okF sc_ldraw (fun vs H Q E h => ?_) (fun f cdv A outer s H vs Q E hA hr h => ?_)
  · obtain ⟨p, c, m, ns, n, rfl, _⟩ := h
    rfl
  · obtain ⟨p, c, m, ns, n, rfl, ⟨t, g, hp, hc, ne, t0, t1⟩, hlen, m0, m1, hn, k⟩ := h
    have fin : ∀ (r t' g' : Int) (H' : Hp), 0 ≤ r → r < m → 0 ≤ t' → t' ≤ (n : Int) + 1 → H' p = some (.lst [.ref c, .int t', .int g']) →
        But p H H' → Q (.int r) H' := fun r t' g' H' r0 r1 a b e fr =>
      k r H' r0 r1 ⟨t', g', e, fr c ne _ hc, ne, a, by omega⟩ fr
    refine ⟨_, (pss_cons (ps_if (pt_cmpR op_gt (pe_ix (ix_list : IxR _ (rIxL K)) (pv 0) (pe_int) (fun _ _ => rfl)) (pe_int) (nomark _))
 (pss_cons (ps_set (i := 2) sc_ldraw.nd rfl (Or.inl rfl) (pe_op op_modW (pe_callTy call_intI (by rfl) (T.nb _ (by decide)) (by decide +kernel) (pa_cons (pe_ix (ix_list : IxR _ (rIxL K)) (pv 0) (pe_int) (fun _ _ => rfl)) pa_nil)) (pv 1)))
 (pss_cons (ps_asg (pe_op op_divX (pe_callTy call_intI (by rfl) (T.nb _ (by decide)) (by decide +kernel) (pa_cons (pe_ix (ix_list : IxR _ (rIxL K)) (pv 0) (pe_int) (fun _ _ => rfl)) pa_nil)) (pv 1)) (pg_sub (pv 0) (pe_int) set_list))
 (pss_one (ps_ret (pv 2))))) pss_nil)
 (pss_cons (ps_set (i := 3) sc_ldraw.nd rfl (Or.inl rfl) (pe_ix (ix_list : IxR _ (rIxL K)) (pv 0) (pe_int) (fun _ _ => rfl)))
 (pss_cons (ps_asg (pe_op op_add (pv 3) (pe_int)) (pg_sub (pv 0) (pe_int) set_list))
 (pss_cons (ps_set (i := 4) sc_ldraw.nd rfl (Or.inl rfl) (pe_op op_add (pe_op op_mulW' (pe_int) (pv 3)) (pe_int)))
 (pss_mid (ps_if (pt_cmpR (op_neD hr.units) (pe_ix (ix_list : IxR _ (rIxL K)) (pv 0) (pe_int) (fun _ _ => rfl)) (pe_lst pa_nil) (nomark _))
 (pss_one (ps_set (i := 4) sc_ldraw.nd rfl (Or.inl rfl) (pe_ix (ix_list : IxR _ (rIxL K)) (pe_ix (ix_list : IxR _ (rIxL K)) (pv 0) (pe_int) (fun _ _ => rfl)) (pe_op op_modW (pe_callTy call_intI (by rfl) (T.nb _ (by decide)) (by decide +kernel) (pa_cons (pv 3) pa_nil)) (pe_callB call_len (by rfl) (T.nb _ (by decide)) PySem.boot_len (pa_cons (pe_ix (ix_list : IxR _ (rIxL K)) (pv 0) (pe_int) (fun _ _ => rfl)) pa_nil))) (fun _ _ => rfl)))) pss_nil)
 (pss_mid (ps_if (PW.pt (pw_and (pt_cmpR op_lt (pv 3) (pe_callB call_len (by rfl) (T.nb _ (by decide)) PySem.boot_len (pa_cons (pe_ix (ix_list : IxR _ (rIxL K)) (pv 0) (pe_int) (fun _ _ => rfl)) pa_nil)) (nomark _)) (pw_and1 (pt_cmpR op_ge (pe_callB call_abs (by rfl) (T.nb _ (by decide)) (by decide +kernel) (pa_cons (pv 4) pa_nil)) (pe_op op_pow (pe_int) (pe_int)) (nomark _)))))
 (pss_cons (ps_set (i := 5) sc_ldraw.nd rfl (Or.inl rfl) (pe_op op_add (pe_op op_mulW' (pe_int) (pe_op op_sub (pe_callB call_abs (by rfl) (T.nb _ (by decide)) (by decide +kernel) (pa_cons (pv 4) pa_nil)) (pe_op op_pow (pe_int) (pe_int)))) (pe_callTy call_intB (by rfl) (T.nb _ (by decide)) (by decide +kernel) (pa_cons (pe_cmpR op_lt (pv 4) (pe_int) (nomark _)) pa_nil))))
 (pss_cons (ps_asg (pe_op op_divX (pe_callTy call_intI (by rfl) (T.nb _ (by decide)) (by decide +kernel) (pa_cons (pv 5) pa_nil)) (pv 1)) (pg_sub (pv 0) (pe_int) set_list))
 (pss_one (ps_ret (pe_op op_modW (pe_callTy call_intI (by rfl) (T.nb _ (by decide)) (by decide +kernel) (pa_cons (pv 5) pa_nil)) (pv 1)))))) pss_nil)
 (pss_cons (ps_set (i := 6) sc_ldraw.nd rfl (Or.inl rfl) (pe_op op_modW (pe_callTy call_intI (by rfl) (T.nb _ (by decide)) (by decide +kernel) (pa_cons (pe_op op_powW (pe_op op_add (pe_op op_add (pe_op op_modW (pe_callTy call_intI (by rfl) (T.nb _ (by decide)) (by decide +kernel) (pa_cons (pv 4) pa_nil)) (pe_int)) (pe_op op_mulW' (pe_int) (pv 3))) (pe_int)) (pe_int)) pa_nil)) (pe_int)))
 (pss_cons (ps_set (i := 6) sc_ldraw.nd rfl (Or.inl rfl) (pe_op op_modW (pe_callTy call_intI (by rfl) (T.nb _ (by decide)) (by decide +kernel) (pa_cons (pe_op op_powW (pe_op op_add (pe_op op_add (pe_op op_mulW' (pv 6) (pe_op op_add (pe_op op_mulW' (pe_int) (pv 3)) (pe_int))) (pe_op op_mulW' (pe_op op_mulW' (pe_int) (pv 3)) (pv 3))) (pe_int)) (pe_int)) pa_nil)) (pe_int)))
 (pss_one (ps_ret (pe_op op_modW (pe_callTy call_intI (by rfl) (T.nb _ (by decide)) (by decide +kernel) (pa_cons (pe_op op_divW (pv 6) (pe_int)) pa_nil)) (pv 1)))))))))))), ?_⟩
    refine ⟨_, rfl, _, _, _, _, rfl, rfl, SqL.of (by walk_at "hp"), rfl, _, _, rfl, rfl, _, rfl, ?_⟩
    refine ite2 (fun c1 => ?_) (fun c1 => ?_)
    · -- a digit of a great cell
      refine ⟨_, rfl, _, _, _, _, rfl, rfl, SqL.of (by walk_at "hp"), rfl, _, rfl, _, rfl, _, _, rfl, rfl, by omega, fun r r0 r1 => ?_⟩
      refine ⟨_, rfl, _, _, _, _, rfl, rfl, SqL.of (by walk_at "hp"), rfl, _, rfl, _, rfl, _, _, rfl, rfl, by omega, m1, fun q z _ _ _ => ?_⟩
      refine ⟨_, rfl, _, _, _, _, rfl, rfl, by walk_at "hp", rfl, _, rfl, ?_⟩
      exact fin r t q _ r0 r1 t0 (by omega) upd_same (fun b hb o e => upd_oth hb e)
    · refine ⟨_, rfl, _, _, _, _, rfl, rfl, SqL.of (by walk_at "hp"), rfl, ?_⟩
      refine ⟨_, rfl, _, _, rfl, rfl, _, rfl, _, _, _, _, rfl, rfl, by walk_at "hp", rfl, ?_⟩
      refine ⟨_, rfl, _, _, rfl, rfl, .inl (by constructor <;> decide), fun z hz => ?_⟩
      refine ⟨_, _, rfl, rfl, ?_⟩
      have hp1 : ∀ u : HO, upd H p u p = some u := fun u => upd_same
      have hc1 : ∀ u : HO, upd H p u c = some (.lst (ns.map V.int)) := fun u => upd_oth ne hc
      have fr1 : ∀ u : HO, But p H (upd H p u) := fun u b hb o e => upd_oth hb e
      -- behind the first cell's choice: some int
      let σ2 : Int → St := fun v => [some (.ref p), some (.int m), none, some (.int t), some (.int v), none, none]
      refine ⟨fun σ' H' => (∃ v, σ' = σ2 v) ∧ H' p = some (.lst [.ref c, .int (t + 1), .int g]) ∧ But p H H', ?_, ?_⟩
      · refine ⟨_, rfl, _, _, _, _, rfl, rfl, SqL.of (hp1 _), rfl, by decide, fun l hl => ?_⟩
        have hp2 : ∀ u : HO, upd (upd H p (.lst [.ref c, .int (t + 1), .int g])) l u p = some (.lst [.ref c, .int (t + 1), .int g]) :=
          fun u => upd_new hl (hp1 _)
        have hc2 : ∀ u : HO, upd (upd H p (.lst [.ref c, .int (t + 1), .int g])) l u c = some (.lst (ns.map V.int)) :=
          fun u => upd_new hl (hc1 _)
        have fr2 : ∀ u : HO, But p H (upd (upd H p (.lst [.ref c, .int (t + 1), .int g])) l u) := fun u b hb o e => upd_new hl (fr1 _ b hb o e)
        refine ⟨_, _, .lst (SqL.of (hc2 _)) (dp_ints ns), .lst (SqL.of upd_same) .nil, shaped_ints ns, rfl, _, rfl, ?_⟩
        rw [eqv_nil]
        refine ite2 (fun c2 => ?_) (fun c2 => ?_)
        · have hne : 0 < (ns.length : Int) := by
            cases ns with
            | nil => simp at c2
            | cons a l => simp
          refine ⟨_, rfl, _, _, _, _, rfl, rfl, SqL.of (hp2 _), rfl, _, rfl, _, rfl, _, rfl, _, _, _, _, rfl, rfl, SqL.of (hp2 _), rfl, ?_⟩
          refine ⟨_, _, rfl, len_lst (hc2 _), _, _, rfl, rfl, ?_, fun r r0 r1 => ?_⟩
          · rw [List.length_map]; exact hne
          · rw [List.length_map] at r1
            obtain ⟨x, hx⟩ := at_map r0 r1
            exact ⟨_, _, _, _, rfl, rfl, SqL.of (hc2 _), hx, ⟨x, rfl⟩, hp2 _, fr2 _⟩
        · exact ⟨⟨_, rfl⟩, hp2 _, fr2 _⟩
      · rintro σ' H' ⟨⟨v, rfl⟩, hp', fr'⟩
        have hc' : H' c = some (.lst (ns.map V.int)) := fr' c ne _ hc
        refine ⟨fun σ1 H1 => σ1 = σ2 v ∧ H1 p = some (.lst [.ref c, .int (t + 1), .int g]) ∧ But p H H1, ?_, ?_⟩
        · refine ⟨_, rfl, _, rfl, _, _, _, _, rfl, rfl, SqL.of hp', rfl, _, _, rfl, len_lst hc', _, _, rfl, rfl, _, rfl, ?_⟩
          refine ite2 (fun c3 => ?_) (fun c3 => iteF ⟨rfl, hp', fr'⟩)
          refine ⟨_, rfl, _, rfl, _, _, rfl, rfl, ⟨by decide, by decide, by decide⟩, _, _, rfl, rfl, _, rfl, ?_⟩
          refine ite2 (fun c4 => ?_) (fun c4 => ⟨rfl, hp', fr'⟩)
          refine ⟨_, rfl, _, rfl, _, _, rfl, rfl, ⟨by decide, by decide, by decide⟩, _, _, rfl, rfl, _, _, rfl, rfl, .inl (by constructor <;> decide), fun z1 hz1 => ?_⟩
          refine ⟨_, rfl, _, _, rfl, rfl, _, rfl, fun i i0 i1 => ⟨_, _, rfl, rfl, ?_⟩⟩
          refine ⟨_, rfl, _, rfl, _, rfl, _, _, rfl, rfl, by omega, m1, fun q z2 _ _ _ => ?_⟩
          refine ⟨_, rfl, _, _, _, _, rfl, rfl, by walk_at "hp", rfl, ?_⟩
          refine ⟨_, rfl, _, rfl, _, rfl, _, _, rfl, rfl, by omega, fun r r0 r1 => ?_⟩
          exact fin r (t + 1) q _ r0 r1 (by omega) (by omega) upd_same (fun b hb o e => upd_oth hb (fr' b hb o e))
        · rintro σ1 H1 ⟨rfl, hp1, fr1⟩
          refine ⟨_, rfl, _, rfl, _, _, rfl, rfl, by decide, fun r r0 r1 => ?_⟩
          refine ⟨_, rfl, _, _, rfl, rfl, .inl (by constructor <;> decide), fun z1 hz1 => ?_⟩
          refine ⟨_, _, rfl, rfl, _, _, rfl, rfl, _, _, rfl, rfl, by decide, by decide, by omega, fun z2 => ?_⟩
          refine ⟨_, rfl, _, _, rfl, rfl, by decide, fun b b0 b1 => ?_⟩
          refine ⟨_, rfl, _, rfl, _, _, rfl, rfl, .inl (by constructor <;> decide), fun z3 hz3 => ?_⟩
          refine ⟨_, _, rfl, rfl, _, _, rfl, rfl, .inl (by constructor <;> omega), fun z4 hz4 => ?_⟩
          refine ⟨_, rfl, _, _, rfl, rfl, .inl (by constructor <;> decide), fun z5 hz5 => ?_⟩
          refine ⟨_, rfl, _, _, rfl, rfl, .inl (by constructor <;> omega), fun z6 hz6 => ?_⟩
          have z40 : 0 ≤ z4 ∧ z4 ≤ 2147483647 * 2010000 := by
            subst hz4
            have a1 : 0 ≤ z3 + 565 := by omega
            have a2 : z3 + 565 ≤ 2010000 := by omega
            exact ⟨Int.mul_nonneg b0 a1, Int.le_trans (Int.mul_le_mul_of_nonneg_right (by omega) a1) (Int.mul_le_mul_of_nonneg_left a2 (by decide))⟩
          have z60 : 0 ≤ z6 ∧ z6 ≤ 61346 * 1000000 * 1000000 := by
            subst hz6
            have a1 : 0 ≤ t := t0
            have a2 : t ≤ 1000000 := by omega
            have a3 : 0 ≤ z5 := by omega
            exact ⟨Int.mul_nonneg a3 a1, Int.le_trans (Int.mul_le_mul_of_nonneg_right (by omega) a1) (Int.mul_le_mul_of_nonneg_left a2 (by decide))⟩
          refine ⟨_, _, rfl, rfl, _, _, rfl, rfl, _, _, rfl, rfl, by decide, by decide, by omega, fun z7 => ?_⟩
          refine ⟨_, rfl, _, _, rfl, rfl, by decide, fun d d0 d1 => ?_⟩
          refine ⟨_, rfl, _, _, rfl, rfl, by decide, by decide, fun q z8 _ _ _ => ?_⟩
          refine ⟨_, rfl, _, rfl, _, _, rfl, rfl, by omega, fun r2 r20 r21 => ?_⟩
          exact fin r2 (t + 1) g _ r20 r21 (by omega) (by omega) hp1 fr1
theorem kp_pen (T : Txt K mg) : Kf P w K mg base 1 "_law_pen" ["_law_script"] (spPen K) := by
  refine T.d_pen.okF sc_lpen (fun vs H Q E h => ?_) (fun f cdv A outer s H vs Q E hA hr h => ?_)
  · obtain ⟨a, ns, rfl, _⟩ := h
    rfl
  · obtain ⟨a, ns, rfl, hs, hlen, k⟩ := h
    refine ⟨_, (pss_one (ps_ret (pe_lst (pa_cons (pe_callTy call_list_of (by rfl) (T.nb _ (by decide)) (by decide +kernel) (pa_cons (pe_slice (sl_list : SlR _ (rSlL K)) (pv 0) po_none (po_some (pe_int))) pa_nil)) (pa_cons (pe_int) (pa_cons (pe_int) pa_nil)))))), ?_⟩
    refine ⟨_, rfl, _, rfl, _, _, rfl, hs, fun q hq => ?_⟩
    refine ⟨_, _, rfl, .inl (SqL.of upd_same), fun c hc => ?_⟩
    refine ⟨(by show 3 ≤ sizeLine; decide), fun p hp => ?_⟩
    have e : cutV (ns.map V.int) none (some 63) = ns.map V.int := by
      have l : (ns.map V.int).length ≤ 63 := by rw [List.length_map]; exact hlen
      have q : cutV (ns.map V.int) none (some 63) = ((ns.map V.int).drop (HT.sIx (ns.map V.int).length 0 none)).take
          (HT.sIx (ns.map V.int).length (ns.map V.int).length (some ((63 : Nat) : Int)) - HT.sIx (ns.map V.int).length 0 none) := rfl
      rw [q, HT.sIx_nat, HT.sIx_none, List.drop_zero]
      exact List.take_of_length_le (by omega)
    have hH : H p = none := (Same.trans (Same.new hq) (Same.new hc)).free hp
    refine k p c _ hH ((Same.new hq).free hc) ((Same.new hq).trans ((Same.new hc).trans (Same.new hp))) ⟨0, 0, upd_same, ?_, ?_, by omega, by omega⟩
    · refine upd_new hp ?_
      rw [upd_same, e]
    · intro z
      rw [z, upd_same] at hp
      cases hp
def spPick : Sp := fun vs H Q _ => ∃ (p c l : Addr) (xs : List V) (ns : List Int) (n : Nat),
  vs = [.ref p, .ref l] ∧ PenAt H p c ns n ∧ ns.length ≤ 63 ∧ H l = some (.lst xs) ∧ l ≠ p ∧ 0 < xs.length ∧
  xs.length < 1000000 ∧ n < 1000000 ∧
  ∀ (v : V) (H' : Hp), v ∈ xs → PenAt H' p c ns (n + 1) → But p H H' → Q v H'
theorem kp_pick (T : Txt K mg) : Kf P w K mg base 2 "_law_pick" ["_law_pen_here", "_law_some"] spPick := by
  refine T.d_pick.okF sc_lpick (fun vs H Q E h => ?_) (fun f cdv A outer s H vs Q E hA hr h => ?_)
  · obtain ⟨p, c, l, xs, ns, n, rfl, _⟩ := h
    rfl
  · obtain ⟨p, c, l, xs, ns, n, rfl, hp, hlen, hl, ne, h0, h1, hn, k⟩ := h
    refine ⟨_, (pss_one (ps_ret (pe_ix (ix_list : IxR _ (rIxL K)) (pv 1) (pe_kf (kp_draw T) hA hr (by rfl) (pa_cons (pv 0) (pa_cons (pe_callB call_len (by rfl) (T.nb _ (by decide)) PySem.boot_len (pa_cons (pv 1) pa_nil)) pa_nil))) (fun _ _ => rfl)))), ?_⟩
    refine ⟨_, rfl, _, rfl, _, rfl, _, _, rfl, len_lst hl, ?_⟩
    refine ⟨p, c, _, ns, n, rfl, hp, hlen, by omega, Nat.lt_trans (show Int.natAbs (xs.length : Int) < 1000000 by omega) (by decide +kernel), hn, fun r H' r0 r1 hp' hb => ?_⟩
    obtain ⟨x, hx, hm⟩ := at_in (xs := xs) r0 (by omega)
    exact ⟨_, _, _, _, rfl, rfl, SqL.of (hb l ne _ hl), hx, k x H' hm hp' hb⟩
/-- a told value -/
def vO : Option Int → V
  | none => .non
  | some i => .int i
end
end KR

namespace KR
open PySem L2
def gC (mg : Str → Option Value) : Addr := adr mg "Rate"
/-- a method of the class that Python calls by itself -/
def OpD (K : PySem.W.Frag) (C : Addr) (nm qual : Str) (st : Stmt) (ps : List Str) : Prop :=
  ∃ f fd, PySem.W.findIn K (.ref C) nm = some (some (.ref f)) ∧ PySem.W.isFn K (.ref f) = true ∧ MD K nm qual st [] f fd ∧ Binds K fd ps []
/-- self, then lower and upper by their names -/
def gKw {α : Type} (us _ds ws : List α) : List α := match us, ws with
  | [x], [l, u] => [x, u, l]
  | _, _ => []
structure TxR (K : PySem.W.Frag) (mg : Str → Option Value) : Prop where
  T : Txt K mg
  mgC : mg "Rate" = some (.ref (gC mg))
  mgG : mg "gcd" = some (.builtin "math.gcd")
  cls : Cls K (gC mg)
  nU : NoAttr K (gC mg) "upper"
  nL : NoAttr K (gC mg) "lower"
  pl : Plain K (gC mg)
  iC : PySem.W.findIn K (.ref (gC mg)) "__class__" = some (some (.builtin "object.__class__"))
  iG : PySem.W.specialIn K (.builtin "object.__class__") "__get__" = some (some (.builtin "getset_descriptor.__get__"))
  iT : PySem.W.takesIn K (.builtin "object.__class__") = some true
  iM : PySem.W.mroIn K (gC mg) (.type "object") = some true
  kI : PySem.W.kitOne K (.ref (gC mg)) (.type "int") = some false
  kC : PySem.W.kitOne K (.ref (gC mg)) (.ref (gC mg)) = some true
  kX : ∀ T ∈ ["NoneType", "str", "tuple", "list", "dict", "bool"], PySem.W.kitOne K (.type T) (.ref (gC mg)) = some false ∧ PySem.W.notFirst K (gC mg) (.type T) = true
  nf : PySem.W.notFirst K (gC mg) (.type "int") = true
  init : ∃ f fd d, Mk K (gC mg) f ∧ MD K "__init__" "Rate.__init__" s_init [.int 1] f fd ∧ Binds K fd ["self", "upper", "lower"] [] ∧
    (∃ ds, Vals [.int 1] ds ∧ Binds K fd ["self", "upper", "lower"] ds) ∧ d = V.int 1 ∧
    ∃ g, KBn K fd ["self", "upper", "lower"] 1 ["lower", "upper"] g (fun vs zs => gKw vs [.int 1] zs)
  o_eq : OpD K (gC mg) "__eq__" "Rate.__eq__" s_eq ["self", "other"]
  o_lt : OpD K (gC mg) "__lt__" "Rate.__lt__" s_lt ["self", "other"]
  o_le : OpD K (gC mg) "__le__" "Rate.__le__" s_le ["self", "other"]
  o_gt : OpD K (gC mg) "__gt__" "Rate.__gt__" s_gt ["self", "other"]
  o_ge : OpD K (gC mg) "__ge__" "Rate.__ge__" s_ge ["self", "other"]
  o_add : OpD K (gC mg) "__add__" "Rate.__add__" s_add ["self", "other"]
  o_radd : OpD K (gC mg) "__radd__" "Rate.__radd__" s_radd ["self", "other"]
  o_neg : OpD K (gC mg) "__neg__" "Rate.__neg__" s_neg ["self"]
  o_sub : OpD K (gC mg) "__sub__" "Rate.__sub__" s_sub ["self", "other"]
  o_rsub : OpD K (gC mg) "__rsub__" "Rate.__rsub__" s_rsub ["self", "other"]
  o_mul : OpD K (gC mg) "__mul__" "Rate.__mul__" s_mul ["self", "other"]
  n_rmul : PySem.W.findIn K (.ref (gC mg)) "__rmul__" = some none
  n_iadd : PySem.W.findIn K (.ref (gC mg)) "__iadd__" = some none
  n_isub : PySem.W.findIn K (.ref (gC mg)) "__isub__" = some none
  n_ne : PySem.W.findIn K (.ref (gC mg)) "__ne__" = some (some (.builtin "object.__ne__"))
  pF : ∃ p g fd, PropOf K (gC mg) "floor" p g ∧ MD K "floor" "Rate.floor" s_floor [] g fd ∧ Binds K fd ["self"] []
/-- an object with these two ints -/
def Fld (C : Addr) (H : Hp) (a : Addr) (u l : Int) : Prop := ∃ dx, H a = some (.ins C dx [("upper", .int u), ("lower", .int l)])
theorem Fld.same {C : Addr} {H H' : Hp} {a : Addr} {u l : Int} (h : Fld C H a u l) (s : Same H H') : Fld C H' a u l := by
  obtain ⟨dx, h⟩ := h
  exact ⟨dx, s _ _ h⟩
/-- of at most so many bits -/
def Sz (n : Nat) (i : Int) : Prop := i.natAbs < 2 ^ n
section
variable {P : Program} {w : World} {K : PySem.W.Frag} {mg : Str → Option Value} {base : Heap}
def IntR (K : PySem.W.Frag) (t : Value) (r : Bool) : Prop := ∃ b1, PySem.W.kitOne K t (.type "int") = some b1 ∧
  ((b1 = false ∧ r = false) ∨ (b1 = true ∧ ∃ b2, PySem.W.kitOne K t (.type "bool") = some b2 ∧ r = !b2))
theorem intR_int : IntR K (.type "int") true := ⟨true, kit_ty (by decide +kernel), .inr ⟨rfl, false, kit_ty (by decide +kernel), rfl⟩⟩
theorem intR_bool : IntR K (.type "bool") false := ⟨true, kit_ty (by decide +kernel), .inr ⟨rfl, true, kit_ty (by decide +kernel), rfl⟩⟩
theorem intR_no {T : String} (h : T ∈ ["NoneType", "str", "tuple", "list", "dict"]) : IntR K (.type T) false := by
  refine ⟨false, kit_ty ?_, .inl ⟨rfl, rfl⟩⟩
  revert h T
  decide +kernel
def spIsInt (K : PySem.W.Frag) : Sp := fun vs H Q _ => ∃ (v : V) (t : Value) (r : Bool), vs = [v] ∧ TyOf K H v t ∧ IntR K t r ∧ Q (.bl r) H
theorem kp_isint (TR : TxR K mg) : Kf P w K mg base 1 "is_integer" ["value"] (spIsInt K) := by
  have T := TR.T
  refine T.d_isint.okF sc_isint (fun vs H Q E h => ?_) (fun f cdv A outer s H vs Q E hA hr h => ?_)
  · obtain ⟨v, t, r, rfl, _⟩ := h
    rfl
  · obtain ⟨v, t, r, rfl, ty, ⟨b1, h1, h⟩, k⟩ := h
    refine ⟨_, (pss_one (ps_ret ((pe_and (pe_callB call_isi (by rfl) (T.nb _ (by decide)) (by decide +kernel) (pa_cons (pv 0) (pa_cons (pe_bltn (v := .ty "int") (by rfl) (T.nb _ (by decide)) (by decide +kernel) rfl) pa_nil))) (pe_one (pe_not (pe_callB call_isi (by rfl) (T.nb _ (by decide)) (by decide +kernel) (pa_cons (pv 0) (pa_cons (pe_bltn (v := .ty "bool") (by rfl) (T.nb _ (by decide)) (by decide +kernel) rfl) pa_nil))))))))), ?_⟩
    refine ⟨_, rfl, v, _, _, _, b1, rfl, .ty "int", .base ty, h1, b1, rfl, ?_⟩
    rcases h with ⟨rfl, rfl⟩ | ⟨rfl, b2, h2, rfl⟩
    · exact iteF k
    · refine iteT ?_
      exact ⟨_, rfl, v, _, _, _, b2, rfl, .ty "bool", .base ty, h2, b2, rfl, k⟩
def spInit (C : Addr) : Sp := fun vs H Q _ => ∃ (x dx : Addr) (n d : Int), vs = [.ref x, .int n, .int d] ∧ H x = some (.ins C dx []) ∧ 0 < d ∧ Sz 1500 d ∧
  ∀ (u l : Int) (H' : Hp), But x H H' → Fld C H' x u l → Nrm u l n d → Q .non H'
theorem ok_init (TR : TxR K mg) {f : Addr} {fd : FuncData} (F : MD K "__init__" "Rate.__init__" s_init [.int 1] f fd) : FnOk P w K mg base CX0 2 f fd ["self", "upper", "lower"] (spInit (gC mg)) := by
  have T := TR.T
  refine F.okM sc_init (fun vs H Q E h => ?_) (fun f cdv A outer s H vs Q E hA hr h => ?_)
  · obtain ⟨x, dx, n, d, rfl, _⟩ := h
    rfl
  · obtain ⟨x, dx, n, d, rfl, hx, d0, hd, k⟩ := h
    refine ⟨_, (pss_cons (ps_if (pt_not (pt_val (pe_kf (kp_isint TR) hA hr (by rfl) (pa_cons (pv 1) pa_nil))))
 (pss_one (ps_never)) pss_nil)
 (pss_cons (ps_if (PW.pt (pw_or (pt_not (pt_val (pe_kf (kp_isint TR) hA hr (by rfl) (pa_cons (pv 2) pa_nil)))) (pw_or1 (pt_cmpR op_lt (pv 2) (pe_int) (nomark _)))))
 (pss_one (ps_never)) pss_nil)
 (pss_cons (ps_set (i := 3) sc_init.nd rfl (Or.inl rfl) (pe_callBfun cr_gcd (by rfl) TR.mgG (pa_cons (pv 1) (pa_cons (pv 2) pa_nil))))
 (pss_cons (ps_fld (pv 0) (pe_op op_fdivW (pv 1) (pv 3)) rfl)
 (pss_one (ps_fld (pv 0) (pe_op op_fdivW (pv 2) (pv 3)) rfl)))))), ?_⟩
    refine ⟨_, rfl, .int n, _, true, rfl, .int n, intR_int, _, rfl, iteF ?_⟩
    refine ⟨_, rfl, .int d, _, true, rfl, .int d, intR_int, _, rfl, iteF ?_⟩
    refine ⟨_, rfl, _, _, rfl, rfl, _, rfl, ?_⟩
    rw [decide_eq_false (by omega)]
    refine iteF ?_
    obtain ⟨g0, hn, gd⟩ := nrm_mk (n := n) (d := d) rfl d0
    refine ⟨_, rfl, _, rfl, n, d, rfl, ?_⟩
    generalize ((Nat.gcd n.natAbs d.natAbs : Nat) : Int) = g at g0 hn gd
    have hw : ∀ i, CDivW i g := fun i => wide_div g0 (Nat.lt_of_le_of_lt gd hd) (by decide) (by decide)
    refine ⟨_, rfl, _, rfl, _, _, rfl, rfl, hw _, ?_⟩
    refine ⟨_, rfl, x, _, dx, [], rfl, hx, TR.cls, TR.nU, by show 0 < 1000; decide, ?_⟩
    refine ⟨_, rfl, _, rfl, _, _, rfl, rfl, hw _, ?_⟩
    refine ⟨_, rfl, x, _, dx, _, rfl, upd_same, TR.cls, TR.nL, by show 1 < 1000; decide, ?_⟩
    exact k _ _ _ (fun b hb o hbo => upd_oth hb (upd_oth hb hbo)) ⟨dx, upd_same⟩ hn
theorem kp_init (TR : TxR K mg) : Kmk P w K mg base (gC mg) 2 ["self", "upper", "lower"] (spInit (gC mg)) (fun d => d = .int 1) := by
  obtain ⟨f, fd, d, M, F, b0, b1, rfl, _⟩ := TR.init
  exact ⟨f, fd, .int 1, M, b0, b1, rfl, ok_init TR F⟩
theorem kp_initK (TR : TxR K mg) : KmkK P w K mg base (gC mg) 2 ["self", "upper", "lower"] ["lower", "upper"] (fun vs zs => gKw vs [.int 1] zs) (spInit (gC mg)) := by
  obtain ⟨f, fd, d, M, F, b0, b1, rfl, g, kb⟩ := TR.init
  exact ⟨f, fd, g, M, kb, ok_init TR F⟩
/-- a new rate, as its maker sees it -/
theorem new_rate {C : Addr} {H : Hp} {n d : Int} {R : Addr → Hp → Prop} {E : XK} (d0 : 0 < d) (hd : Sz 1500 d)
    (k : ∀ (z : Addr) (u l : Int) (H' : Hp), Same H H' → Fld C H' z u l → Nrm u l n d → R z H') :
    ∀ x dx, H x = none → H dx = none → dx ≠ x → spInit C [.ref x, .int n, .int d] (upd (upd H dx (.own x)) x (.ins C dx [])) (fun v H2 => v = .non ∧ R x H2) E := by
  intro x dx hx hdx ne
  refine ⟨x, dx, n, d, rfl, upd_same, d0, hd, fun u l H' hb hf hn => ⟨rfl, k x u l H' (fun b o hbo => ?_) hf hn⟩⟩
  have bx : b ≠ x := by
    intro z
    rw [z, hx] at hbo
    cases hbo
  exact hb b bx o (upd_oth bx (upd_new hdx hbo))
end
end KR

namespace KR
open PySem L2
/-- an operand: an int, or an object with its two parts -/
def Val (C : Addr) (H : Hp) (y : V) (p q : Int) : Prop := (y = .int p ∧ q = 1) ∨ ∃ b, y = .ref b ∧ Fld C H b p q
theorem Val.same {C : Addr} {H H' : Hp} {y : V} {u l : Int} (h : Val C H y u l) (s : Same H H') : Val C H' y u l :=
  h.elim .inl fun ⟨b, e, f⟩ => .inr ⟨b, e, f.same s⟩
theorem Val.own {C : Addr} {H : Hp} {y : V} {u l : Int} (h : Val C H y u l) : (∃ i, y = .int i) ∨ ∃ b dy gs, y = .ref b ∧ H b = some (.ins C dy gs) := by
  rcases h with ⟨rfl, _⟩ | ⟨b, rfl, dy, e⟩
  · exact .inl ⟨_, rfl⟩
  · exact .inr ⟨b, dy, _, rfl, e⟩
/-- the result of reckoning: a new object, the fraction in least terms -/
def NewQ (C : Addr) (H : Hp) (n d : Int) (Q : VK) : Prop := ∀ (z : Addr) (u l : Int) (H' : Hp), Same H H' → Fld C H' z u l → Nrm u l n d → Q (.ref z) H'
theorem Sz.mul {i j : Int} (hi : Sz 300 i) (hj : Sz 300 j) : CMulW i j := wide_mul hi hj (by decide) (by decide) (by decide)
theorem Sz.big {i : Int} (hi : Sz 300 i) : Sz 1500 i := Nat.lt_trans hi (by decide +kernel)
theorem Sz.big2 {i j : Int} (hi : Sz 300 i) (hj : Sz 300 j) : Sz 1500 (i * j) := Nat.lt_trans (wide_lt hi hj) (by decide +kernel)
theorem Sz.one : Sz 300 1 := by unfold Sz; decide +kernel
section
variable {P : Program} {w : World} {K : PySem.W.Frag} {mg : Str → Option Value} {base : Heap}
def spAdd (C : Addr) : Sp := fun vs H Q _ => ∃ (a : Addr) (y : V) (u l p q : Int), vs = [.ref a, y] ∧ Fld C H a u l ∧ Val C H y p q ∧
  0 < l ∧ 0 < q ∧ Sz 300 u ∧ Sz 300 l ∧ Sz 300 p ∧ Sz 300 q ∧ NewQ C H (u * q + p * l) (l * q) Q
theorem ka_add (TR : TxR K mg) : Kop P w K mg base (gC mg) 4 "__add__" ["self", "other"] (spAdd (gC mg)) := by
  have T := TR.T
  obtain ⟨f, fd, h1, h2, F, b⟩ := TR.o_add
  refine ⟨f, fd, h1, h2, b, F.okM sc_add (fun vs H Q E h => ?_) (fun f cdv A outer s H vs Q E hA hr h => ?_)⟩
  · obtain ⟨a, y, u, l, p, q, rfl, _⟩ := h
    rfl
  · obtain ⟨a, y, u, l, p, q, rfl, ⟨dx, ha⟩, hy, l0, q0, su, sl, sp, sq, k⟩ := h
    refine ⟨_, (pss_cons (ps_if (pt_val (pe_kf (kp_isint TR) hA hr (by rfl) (pa_cons (pv 1) pa_nil)))
 (pss_one (ps_ret (pe_kmk (kp_init TR) hr (by rfl) TR.mgC (pa_cons (pe_op op_add (pe_fld (pv 0) rfl) (pe_op op_mulW (pv 1) (pe_fld (pv 0) rfl))) (pa_cons (pe_fld (pv 0) rfl) pa_nil))))) pss_nil)
 (pss_cons (ps_if (pt_not (pt_val (pe_callB call_isi (by rfl) (T.nb _ (by decide)) (by decide +kernel) (pa_cons (pv 1) (pa_cons (pe_glob (v := .ref (gC mg)) rfl TR.mgC rfl) pa_nil)))))
 (pss_one (ps_never)) pss_nil)
 (pss_one (ps_ret (pe_kmk (kp_init TR) hr (by rfl) TR.mgC (pa_cons (pe_op op_add (pe_op op_mulW (pe_fld (pv 0) rfl) (pe_fld (pv 1) rfl)) (pe_op op_mulW (pe_fld (pv 1) rfl) (pe_fld (pv 0) rfl))) (pa_cons (pe_op op_mulW (pe_fld (pv 0) rfl) (pe_fld (pv 1) rfl)) pa_nil))))))), ?_⟩
    rcases hy with ⟨rfl, rfl⟩ | ⟨b, rfl, dy, hb⟩
    · refine ⟨_, rfl, .int p, _, true, rfl, .int p, intR_int, _, rfl, iteT ?_⟩
      rw [Int.mul_one, Int.mul_one] at k
      refine ⟨_, rfl, a, _, dx, _, _, rfl, ha, TR.cls, TR.nU, rfl, _, rfl, _, rfl, a, _, dx, _, _, rfl, ha, TR.cls, TR.nL, rfl, _, _, rfl, rfl, sp.mul sl, _, _, rfl, rfl, ?_⟩
      refine ⟨_, rfl, a, _, dx, _, _, rfl, ha, TR.cls, TR.nL, rfl, ?_⟩
      exact new_rate l0 sl.big k
    · refine ⟨_, rfl, .ref b, _, false, rfl, .ins hb TR.cls TR.iC TR.iG TR.iT TR.iM, ⟨false, TR.kI, .inl ⟨rfl, rfl⟩⟩, _, rfl, iteF ?_⟩
      refine ⟨_, rfl, .ref b, _, _, _, true, rfl, .own _, .base (.ins hb TR.cls TR.iC TR.iG TR.iT TR.iM), TR.kC, _, rfl, iteF ?_⟩
      refine ⟨_, rfl, a, _, dx, _, _, rfl, ha, TR.cls, TR.nU, rfl, _, rfl, b, _, dy, _, _, rfl, hb, TR.cls, TR.nL, rfl, _, _, rfl, rfl, su.mul sq,
        _, rfl, b, _, dy, _, _, rfl, hb, TR.cls, TR.nU, rfl, _, rfl, a, _, dx, _, _, rfl, ha, TR.cls, TR.nL, rfl, _, _, rfl, rfl, sp.mul sl, _, _, rfl, rfl, ?_⟩
      refine ⟨_, rfl, a, _, dx, _, _, rfl, ha, TR.cls, TR.nL, rfl, _, rfl, b, _, dy, _, _, rfl, hb, TR.cls, TR.nL, rfl, _, _, rfl, rfl, sl.mul sq, ?_⟩
      exact new_rate (Int.mul_pos l0 q0) (sl.big2 sq) k
def spNeg (C : Addr) : Sp := fun vs H Q _ => ∃ (a : Addr) (u l : Int), vs = [.ref a] ∧ Fld C H a u l ∧ 0 < l ∧ Sz 300 u ∧ Sz 300 l ∧ NewQ C H (-u) l Q
theorem ka_neg (TR : TxR K mg) : Kop P w K mg base (gC mg) 4 "__neg__" ["self"] (spNeg (gC mg)) := by
  have T := TR.T
  obtain ⟨f, fd, h1, h2, F, b⟩ := TR.o_neg
  refine ⟨f, fd, h1, h2, b, F.okM sc_neg (fun vs H Q E h => ?_) (fun f cdv A outer s H vs Q E hA hr h => ?_)⟩
  · obtain ⟨a, u, l, rfl, _⟩ := h
    rfl
  · obtain ⟨a, u, l, rfl, ⟨dx, ha⟩, l0, su, sl, k⟩ := h
    refine ⟨_, (pss_one (ps_ret (pe_kmk (kp_init TR) hr (by rfl) TR.mgC (pa_cons (pe_un un_neg (pe_fld (pv 0) rfl)) (pa_cons (pe_fld (pv 0) rfl) pa_nil))))), ?_⟩
    refine ⟨_, rfl, a, _, dx, _, _, rfl, ha, TR.cls, TR.nU, rfl, _, rfl, _, rfl, a, _, dx, _, _, rfl, ha, TR.cls, TR.nL, rfl, ?_⟩
    exact new_rate l0 sl.big k
def spMul (C : Addr) : Sp := fun vs H Q _ => ∃ (a : Addr) (u l k : Int), vs = [.ref a, .int k] ∧ Fld C H a u l ∧ 0 < l ∧ Sz 300 u ∧ Sz 300 l ∧ Sz 300 k ∧ NewQ C H (u * k) l Q
theorem ka_mul (TR : TxR K mg) : Kop P w K mg base (gC mg) 4 "__mul__" ["self", "other"] (spMul (gC mg)) := by
  have T := TR.T
  obtain ⟨f, fd, h1, h2, F, b⟩ := TR.o_mul
  refine ⟨f, fd, h1, h2, b, F.okM sc_mul (fun vs H Q E h => ?_) (fun f cdv A outer s H vs Q E hA hr h => ?_)⟩
  · obtain ⟨a, u, l, k, rfl, _⟩ := h
    rfl
  · obtain ⟨a, u, l, p, rfl, ⟨dx, ha⟩, l0, su, sl, sp, k⟩ := h
    refine ⟨_, (pss_cons (ps_if (pt_not (pt_val (pe_kf (kp_isint TR) hA hr (by rfl) (pa_cons (pv 1) pa_nil))))
 (pss_one (ps_never)) pss_nil)
 (pss_one (ps_ret (pe_kmk (kp_init TR) hr (by rfl) TR.mgC (pa_cons (pe_op op_mulW (pe_fld (pv 0) rfl) (pv 1)) (pa_cons (pe_fld (pv 0) rfl) pa_nil)))))), ?_⟩
    refine ⟨_, rfl, .int p, _, true, rfl, .int p, intR_int, _, rfl, iteF ?_⟩
    refine ⟨_, rfl, a, _, dx, _, _, rfl, ha, TR.cls, TR.nU, rfl, _, rfl, _, _, rfl, rfl, su.mul sp, _, rfl, a, _, dx, _, _, rfl, ha, TR.cls, TR.nL, rfl, ?_⟩
    exact new_rate l0 sl.big k
def spFloor (C : Addr) : Sp := fun vs H Q _ => ∃ (a : Addr) (u l : Int), vs = [.ref a] ∧ Fld C H a u l ∧ 0 < l ∧ Sz 300 l ∧ Q (.int (u / l)) H
theorem kp_floor (TR : TxR K mg) : Kpr P w K mg base (gC mg) 1 "floor" (spFloor (gC mg)) := by
  have T := TR.T
  obtain ⟨p, g, fd, hp, F, b0⟩ := TR.pF
  refine ⟨p, g, fd, hp, b0, F.okM sc_floor (fun vs H Q E h => ?_) (fun f cdv A outer s H vs Q E hA hr h => ?_)⟩
  · obtain ⟨a, u, l, rfl, _⟩ := h
    rfl
  · obtain ⟨a, u, l, rfl, ⟨dx, ha⟩, l0, sl, k⟩ := h
    refine ⟨_, (pss_one (ps_ret (pe_op op_fdivW (pe_fld (pv 0) rfl) (pe_fld (pv 0) rfl)))), ?_⟩
    exact ⟨_, rfl, a, _, dx, _, _, rfl, ha, TR.cls, TR.nU, rfl, _, rfl, a, _, dx, _, _, rfl, ha, TR.cls, TR.nL, rfl, _, _, rfl, rfl, wide_div l0 sl (by decide) (by decide), k⟩
/-- values of other kinds -/
def Odd (K : PySem.W.Frag) (C : Addr) (H : Hp) (y : V) : Prop := ∃ t, TyOf K H y t ∧ IntR K t false ∧ PySem.W.kitOne K t (.ref C) = some false ∧ PySem.W.notFirst K C t = true
/-- two fractions in least terms are the same one -/
def spEq (K : PySem.W.Frag) (C : Addr) : Sp := fun vs H Q _ => ∃ (a : Addr) (y : V) (u l : Int), vs = [.ref a, y] ∧ Fld C H a u l ∧
  ((∃ p q, Val C H y p q ∧ 0 < l ∧ 0 < q ∧ Int.gcd u l = 1 ∧ Int.gcd p q = 1 ∧ Q (.bl (decide (u * q = p * l))) H) ∨ (Odd K C H y ∧ Q (.bl false) H))
theorem eq_parts {u l p q : Int} (l0 : 0 < l) (q0 : 0 < q) (g : Int.gcd u l = 1) (g' : Int.gcd p q = 1) : u * q = p * l ↔ u = p ∧ l = q := by
  constructor
  · intro e
    exact nrm_uniq (nrm_self l0 g) (nrm_self q0 g') l0 q0 e
  · rintro ⟨rfl, rfl⟩
    rfl
theorem ka_eq (TR : TxR K mg) : Kop P w K mg base (gC mg) 2 "__eq__" ["self", "other"] (KR.spEq K (gC mg)) := by
  have T := TR.T
  obtain ⟨f, fd, h1, h2, F, b⟩ := TR.o_eq
  refine ⟨f, fd, h1, h2, b, F.okM sc_eq (fun vs H Q E h => ?_) (fun f cdv A outer s H vs Q E hA hr h => ?_)⟩
  · obtain ⟨a, y, u, l, rfl, _⟩ := h
    rfl
  · obtain ⟨a, y, u, l, rfl, ⟨dx, ha⟩, h⟩ := h
    refine ⟨_, (pss_cons (ps_if (pt_val (pe_kf (kp_isint TR) hA hr (by rfl) (pa_cons (pv 1) pa_nil)))
 (pss_one (ps_ret ((pe_and (pe_cmpR op_eq (pe_fld (pv 0) rfl) (pe_int) (nomark _)) (pe_one (pe_cmpR op_eq (pe_fld (pv 0) rfl) (pv 1) (nomark _))))))) pss_nil)
 (pss_one (ps_ret ((pe_and (pe_callB call_isi (by rfl) (T.nb _ (by decide)) (by decide +kernel) (pa_cons (pv 1) (pa_cons (pe_glob (v := .ref (gC mg)) rfl TR.mgC rfl) pa_nil))) (pe_and (pe_cmpR op_eq (pe_fld (pv 0) rfl) (pe_fld (pv 1) rfl) (nomark _)) (pe_one (pe_cmpR op_eq (pe_fld (pv 0) rfl) (pe_fld (pv 1) rfl) (nomark _))))))))), ?_⟩
    rcases h with ⟨p, q, hy, l0, q0, gu, gp, k⟩ | ⟨⟨t, ty, ti, tk, _⟩, k⟩
    · rcases hy with ⟨rfl, rfl⟩ | ⟨b, rfl, dy, hb⟩
      · refine ⟨_, rfl, .int p, _, true, rfl, .int p, intR_int, _, rfl, iteT ?_⟩
        refine ⟨_, rfl, a, _, dx, _, _, rfl, ha, TR.cls, TR.nL, rfl, rfl, _, rfl, ?_⟩
        have e := eq_parts (p := p) l0 q0 gu gp
        refine ite2 (fun c => ?_) (fun c => ?_)
        · refine ⟨_, rfl, a, _, dx, _, _, rfl, ha, TR.cls, TR.nU, rfl, _, rfl, rfl, ?_⟩
          have c' : l = 1 := by simpa using c
          have e2 : decide (u * 1 = p * l) = decide (V.int u = V.int p) := by
            rw [decide_eq_decide]
            exact e.trans ⟨fun z => by rw [z.1], fun z => ⟨V.int.inj z, c'⟩⟩
          rw [e2] at k
          exact k
        · have c' : ¬ l = 1 := by simpa using c
          have e2 : decide (u * 1 = p * l) = false := decide_eq_false fun z => c' (e.mp z).2
          rw [e2] at k
          exact k
      · refine ⟨_, rfl, .ref b, _, false, rfl, .ins hb TR.cls TR.iC TR.iG TR.iT TR.iM, ⟨false, TR.kI, .inl ⟨rfl, rfl⟩⟩, _, rfl, iteF ?_⟩
        refine ⟨_, rfl, .ref b, _, _, _, true, rfl, .own _, .base (.ins hb TR.cls TR.iC TR.iG TR.iT TR.iM), TR.kC, _, rfl, iteT ?_⟩
        refine ⟨_, rfl, a, _, dx, _, _, rfl, ha, TR.cls, TR.nU, rfl, _, rfl, b, _, dy, _, _, rfl, hb, TR.cls, TR.nU, rfl, rfl, _, rfl, ?_⟩
        have e := eq_parts (p := p) l0 q0 gu gp
        refine ite2 (fun c => ?_) (fun c => ?_)
        · refine ⟨_, rfl, a, _, dx, _, _, rfl, ha, TR.cls, TR.nL, rfl, _, rfl, b, _, dy, _, _, rfl, hb, TR.cls, TR.nL, rfl, rfl, ?_⟩
          have c' : u = p := by simpa using c
          have e2 : decide (u * q = p * l) = decide (V.int l = V.int q) := by
            rw [decide_eq_decide]
            exact e.trans ⟨fun z => by rw [z.2], fun z => ⟨c', V.int.inj z⟩⟩
          rw [e2] at k
          exact k
        · have c' : ¬ u = p := by simpa using c
          have e2 : decide (u * q = p * l) = false := decide_eq_false fun z => c' (e.mp z).1
          rw [e2] at k
          exact k
    · refine ⟨_, rfl, y, t, false, rfl, ty, ti, _, rfl, iteF ?_⟩
      exact ⟨_, rfl, y, _, _, _, false, rfl, .own _, .base ty, tk, _, rfl, iteF k⟩
end
section
variable {X : Cx} {j : Nat}
theorem r_add (TR : TxR X.K X.mg) (hr : Room j X.A) (hj : 4 ≤ j := by decide) : OpR X (binaryOp .Add) (rOwn (gC X.mg) (spAdd (gC X.mg))) := by
  obtain ⟨f, _, h, _⟩ := TR.o_radd
  exact op_own (op := .Add) (fo := some (.builtin "int.__add__")) (ro := some (.builtin "int.__radd__")) TR.pl (ka_add TR) (hr.mono hj) h (.inr ⟨_, rfl⟩) (h1 := by kernel_rfl) (h2 := by kernel_rfl)
theorem r_neg (TR : TxR X.K X.mg) (hr : Room j X.A) (hj : 4 ≤ j := by decide) : UnR X (unaryOp .USub) (rNegB (gC X.mg) (spNeg (gC X.mg))) :=
  un_negO (ka_neg TR) (hr.mono hj)
theorem r_mul (TR : TxR X.K X.mg) (hr : Room j X.A) (hj : 4 ≤ j := by decide) : OpR X (binaryOp .Mult) (rOwn (gC X.mg) (spMul (gC X.mg))) :=
  op_own (op := .Mult) (fo := some (.builtin "int.__mul__")) (ro := some (.builtin "int.__rmul__")) TR.pl (ka_mul TR) (hr.mono hj) TR.n_rmul (.inl rfl) (h1 := by kernel_rfl) (h2 := by kernel_rfl)
theorem r_eq (TR : TxR X.K X.mg) (hr : Room j X.A) (hj : 2 ≤ j := by decide) : OpR X (compareOp .Eq) (rOwnC X.K (gC X.mg) (KR.spEq X.K (gC X.mg))) :=
  op_cmp (op := .Eq) (ka_eq TR) (hr.mono hj)
theorem r_ne (TR : TxR X.K X.mg) (hr : Room j X.A) (hj : 3 ≤ j := by decide) : OpR X (compareOp .NotEq) (rNeO (gC X.mg) (KR.spEq X.K (gC X.mg))) :=
  op_neO TR.pl (ka_eq TR) (hr.mono hj) TR.n_ne
theorem r_iadd (TR : TxR X.K X.mg) (hr : Room j X.A) (hj : 4 ≤ j := by decide) : OpR X (inplaceOp .Add) (fun x y H Q => ∃ b dy gs, y = .ref b ∧ H b = some (.ins (gC X.mg) dy gs) ∧ rOwn (gC X.mg) (spAdd (gC X.mg)) x y H Q) :=
  ip_own (op := .Add) TR.pl (ka_add TR) (hr.mono hj) TR.n_iadd (h2 := by kernel_rfl)
end
end KR

namespace KR
open PySem L2
section
variable {P : Program} {w : World} {K : PySem.W.Frag} {mg : Str → Option Value} {base : Heap}
/-- an object of the class, as an operand of its own + -/
theorem own_add {C : Addr} {H : Hp} {a : Addr} {y : V} {u l p q : Int} {Q : VK} (ha : Fld C H a u l) (hy : Val C H y p q) (l0 : 0 < l) (q0 : 0 < q) (su : Sz 300 u) (sl : Sz 300 l) (sp : Sz 300 p) (sq : Sz 300 q)
    (k : NewQ C H (u * q + p * l) (l * q) Q) : rOwn C (spAdd C) (.ref a) y H Q := by
  obtain ⟨dx, e⟩ := id ha
  exact ⟨a, dx, _, rfl, e, hy.own, a, y, u, l, p, q, rfl, ha, hy, l0, q0, su, sl, sp, sq, k⟩
theorem Sz.neg {n : Nat} {i : Int} (h : Sz n i) : Sz n (-i) := by
  unfold Sz
  rw [Int.natAbs_neg]
  exact h
theorem Sz.of {n : Nat} {i j : Int} (h : Sz n j) (e : i.natAbs ≤ j.natAbs) : Sz n i := Nat.lt_of_le_of_lt e h
def spSub (C : Addr) : Sp := fun vs H Q _ => ∃ (a : Addr) (y : V) (u l p q : Int), vs = [.ref a, y] ∧ Fld C H a u l ∧ Val C H y p q ∧
  0 < l ∧ 0 < q ∧ Sz 300 u ∧ Sz 300 l ∧ Sz 300 p ∧ Sz 300 q ∧ NewQ C H (u * q - p * l) (l * q) Q
theorem ka_sub (TR : TxR K mg) : Kop P w K mg base (gC mg) 5 "__sub__" ["self", "other"] (spSub (gC mg)) := by
  have T := TR.T
  obtain ⟨f, fd, h1, h2, F, b⟩ := TR.o_sub
  refine ⟨f, fd, h1, h2, b, F.okM sc_sub (fun vs H Q E h => ?_) (fun f cdv A outer s H vs Q E hA hr h => ?_)⟩
  · obtain ⟨a, y, u, l, p, q, rfl, _⟩ := h
    rfl
  · obtain ⟨a, y, u, l, p, q, rfl, ha, hy, l0, q0, su, sl, sp, sq, k⟩ := h
    refine ⟨_, (pss_cons (ps_if (PW.pt (pw_and (pt_not (pt_val (pe_kf (kp_isint TR) hA hr (by rfl) (pa_cons (pv 1) pa_nil)))) (pw_and1 (pt_not (pt_val (pe_callB call_isi (by rfl) (T.nb _ (by decide)) (by decide +kernel) (pa_cons (pv 1) (pa_cons (pe_glob (v := .ref (gC mg)) rfl TR.mgC rfl) pa_nil))))))))
 (pss_one (ps_never)) pss_nil)
 (pss_one (ps_ret (pe_op (r_add TR hr) (pv 0) (pe_un (r_neg TR hr) (pv 1)))))), ?_⟩
    rcases hy with ⟨rfl, rfl⟩ | ⟨b, rfl, hb0⟩
    · refine ⟨_, rfl, .int p, _, true, rfl, .int p, intR_int, _, rfl, iteF ?_⟩
      refine ⟨_, rfl, _, rfl, .inl ⟨p, rfl, own_add ha (.inl ⟨rfl, rfl⟩) l0 q0 su sl sp.neg sq ?_⟩⟩
      have e : u * 1 + -p * l = u * 1 - p * l := by grind
      rw [e]
      exact k
    · obtain ⟨dy, hb⟩ := id hb0
      refine ⟨_, rfl, .ref b, _, false, rfl, .ins hb TR.cls TR.iC TR.iG TR.iT TR.iM, ⟨false, TR.kI, .inl ⟨rfl, rfl⟩⟩, _, rfl, iteT ?_⟩
      refine ⟨_, rfl, .ref b, _, _, _, true, rfl, .own _, .base (.ins hb TR.cls TR.iC TR.iG TR.iT TR.iM), TR.kC, _, rfl, iteF ?_⟩
      refine ⟨_, rfl, _, rfl, .inr ⟨b, dy, _, rfl, hb, b, p, q, rfl, hb0, q0, sp, sq, fun z u2 l2 H1 s1 hz hn => ?_⟩⟩
      have le := nrm_le hn q0
      refine own_add (ha.same s1) (.inr ⟨z, rfl, hz⟩) l0 hn.1 su sl (sp.of (by have := le.1; omega)) (sq.of le.2) fun z2 r t H2 s2 hf hr2 => ?_
      exact k z2 r t H2 (s1.trans s2) hf (sub_nrm hr2 hn)
def spRadd (C : Addr) : Sp := fun vs H Q _ => ∃ (a : Addr) (u l k : Int), vs = [.ref a, .int k] ∧ Fld C H a u l ∧
  0 < l ∧ Sz 300 u ∧ Sz 300 l ∧ Sz 300 k ∧ NewQ C H (u + k * l) l Q
theorem ka_radd (TR : TxR K mg) : Kop P w K mg base (gC mg) 5 "__radd__" ["self", "other"] (spRadd (gC mg)) := by
  have T := TR.T
  obtain ⟨f, fd, h1, h2, F, b⟩ := TR.o_radd
  refine ⟨f, fd, h1, h2, b, F.okM sc_radd (fun vs H Q E h => ?_) (fun f cdv A outer s H vs Q E hA hr h => ?_)⟩
  · obtain ⟨a, u, l, k, rfl, _⟩ := h
    rfl
  · obtain ⟨a, u, l, p, rfl, ha, l0, su, sl, sp, k⟩ := h
    refine ⟨_, (pss_one (ps_ret (pe_op (r_add TR hr) (pv 0) (pv 1)))), ?_⟩
    refine ⟨_, rfl, _, rfl, own_add ha (.inl ⟨rfl, rfl⟩) l0 (by decide) su sl sp Sz.one ?_⟩
    rw [Int.mul_one, Int.mul_one]
    exact k
def spRsub (C : Addr) : Sp := fun vs H Q _ => ∃ (a : Addr) (u l k : Int), vs = [.ref a, .int k] ∧ Fld C H a u l ∧
  0 < l ∧ Sz 300 u ∧ Sz 300 l ∧ Sz 300 k ∧ NewQ C H (k * l - u) l Q
theorem ka_rsub (TR : TxR K mg) : Kop P w K mg base (gC mg) 5 "__rsub__" ["self", "other"] (spRsub (gC mg)) := by
  have T := TR.T
  obtain ⟨f, fd, h1, h2, F, b⟩ := TR.o_rsub
  refine ⟨f, fd, h1, h2, b, F.okM sc_rsub (fun vs H Q E h => ?_) (fun f cdv A outer s H vs Q E hA hr h => ?_)⟩
  · obtain ⟨a, u, l, k, rfl, _⟩ := h
    rfl
  · obtain ⟨a, u, l, p, rfl, ha0, l0, su, sl, sp, k⟩ := h
    obtain ⟨dx, ha⟩ := id ha0
    refine ⟨_, (pss_one (ps_ret (pe_op (r_add TR hr) (pe_un (r_neg TR hr) (pv 0)) (pv 1)))), ?_⟩
    refine ⟨_, rfl, .inr ⟨a, dx, _, rfl, ha, a, u, l, rfl, ha0, l0, su, sl, fun z u2 l2 H1 s1 hz hn => ?_⟩⟩
    have le := nrm_le hn l0
    refine ⟨_, rfl, own_add hz (.inl ⟨rfl, rfl⟩) hn.1 (by decide) (su.of (by have := le.1; omega)) (sl.of le.2) sp Sz.one fun z2 r t H2 s2 hf hr2 => ?_⟩
    exact k z2 r t H2 (s1.trans s2) hf (rsub_nrm hr2 hn)
end
section
variable {X : Cx} {j : Nat}
theorem r_sub (TR : TxR X.K X.mg) (hr : Room j X.A) (hj : 5 ≤ j := by decide) : OpR X (binaryOp .Sub) (rOwn (gC X.mg) (spSub (gC X.mg))) := by
  obtain ⟨f, _, h, _⟩ := TR.o_rsub
  exact op_own (op := .Sub) (fo := some (.builtin "int.__sub__")) (ro := some (.builtin "int.__rsub__")) TR.pl (ka_sub TR) (hr.mono hj) h (.inr ⟨_, rfl⟩) (h1 := by kernel_rfl) (h2 := by kernel_rfl)
theorem r_isub (TR : TxR X.K X.mg) (hr : Room j X.A) (hj : 5 ≤ j := by decide) : OpR X (inplaceOp .Sub) (fun x y H Q => ∃ b dy gs, y = .ref b ∧ H b = some (.ins (gC X.mg) dy gs) ∧ rOwn (gC X.mg) (spSub (gC X.mg)) x y H Q) :=
  ip_own (op := .Sub) TR.pl (ka_sub TR) (hr.mono hj) TR.n_isub (h2 := by kernel_rfl)
theorem r_radd (TR : TxR X.K X.mg) (hr : Room j X.A) (hj : 5 ≤ j := by decide) : OpR X (binaryOp .Add) (rOwnR (gC X.mg) (spRadd (gC X.mg))) := by
  obtain ⟨f, _, h, _⟩ := TR.o_add
  exact op_ownR (op := .Add) (idl := "int.__add__") (ro := some (.builtin "int.__radd__")) TR.pl (ka_radd TR) (hr.mono hj) h (hS := F.slot_int_add) (hq := by decide +kernel)
    (hR := by rw [typeLookup_type, builtinLookup_eq_fast]; kernel_rfl)
    (hl := fun A E s i t y dx Q' ho q => call_meets F.slot_int_add rfl F.entry_int_add (F.args_int_add_2 _ _) (PySem.W.q15_iadd i t y (gC X.mg) dx) ⟨ho, q⟩)
theorem r_rsub (TR : TxR X.K X.mg) (hr : Room j X.A) (hj : 5 ≤ j := by decide) : OpR X (binaryOp .Sub) (rOwnR (gC X.mg) (spRsub (gC X.mg))) := by
  obtain ⟨f, _, h, _⟩ := TR.o_sub
  exact op_ownR (op := .Sub) (idl := "int.__sub__") (ro := some (.builtin "int.__rsub__")) TR.pl (ka_rsub TR) (hr.mono hj) h (hS := F.slot_int_sub) (hq := by decide +kernel)
    (hR := by rw [typeLookup_type, builtinLookup_eq_fast]; kernel_rfl)
    (hl := fun A E s i t y dx Q' ho q => call_meets F.slot_int_sub rfl F.entry_int_sub (F.args_int_sub_2 _ _) (PySem.W.q15_isub i t y (gC X.mg) dx) ⟨ho, q⟩)
end
/-- an object of the class, as an operand of its own - -/
theorem own_sub {C : Addr} {H : Hp} {a : Addr} {y : V} {u l p q : Int} {Q : VK} (ha : Fld C H a u l) (hy : Val C H y p q) (l0 : 0 < l) (q0 : 0 < q) (su : Sz 300 u) (sl : Sz 300 l) (sp : Sz 300 p) (sq : Sz 300 q)
    (k : NewQ C H (u * q - p * l) (l * q) Q) : rOwn C (spSub C) (.ref a) y H Q := by
  obtain ⟨dx, e⟩ := id ha
  exact ⟨a, dx, _, rfl, e, hy.own, a, y, u, l, p, q, rfl, ha, hy, l0, q0, su, sl, sp, sq, k⟩
def spCmp (C : Addr) (g : Int → Int → Bool) : Sp := fun vs H Q _ => ∃ (a : Addr) (y : V) (u l p q : Int), vs = [.ref a, y] ∧ Fld C H a u l ∧ Val C H y p q ∧
  0 < l ∧ 0 < q ∧ Sz 300 u ∧ Sz 300 l ∧ Sz 300 p ∧ Sz 300 q ∧ ∀ H', Same H H' → Q (.bl (g (u * q) (p * l))) H'
section
variable {P : Program} {w : World} {K : PySem.W.Frag} {mg : Str → Option Value} {base : Heap}
abbrev glt : Int → Int → Bool := fun x y => decide (x < y)
theorem ka_lt (TR : TxR K mg) : Kop P w K mg base (gC mg) 6 "__lt__" ["self", "other"] (spCmp (gC mg) glt) := by
  have T := TR.T
  obtain ⟨f, fd, h1, h2, F, b⟩ := TR.o_lt
  refine ⟨f, fd, h1, h2, b, F.okM sc_lt (fun vs H Q E h => ?_) (fun f cdv A outer s H vs Q E hA hr h => ?_)⟩
  · obtain ⟨a, y, u, l, p, q, rfl, _⟩ := h
    rfl
  · obtain ⟨a, y, u, l, p, q, rfl, ha, hy, l0, q0, su, sl, sp, sq, k⟩ := h
    refine ⟨_, (pss_one (ps_ret (pe_cmpR op_lt (pe_fld (pe_op (r_sub TR hr) (pv 0) (pv 1)) rfl) (pe_int) (nomark _)))), ?_⟩
    refine ⟨_, rfl, _, rfl, own_sub ha hy l0 q0 su sl sp sq fun z r t H1 s1 ⟨dz, hz⟩ hn => ?_⟩
    refine ⟨z, _, dz, _, _, rfl, hz, TR.cls, TR.nU, rfl, _, _, rfl, rfl, ?_⟩
    have sg := sgn hn.2.2 (Int.mul_pos l0 q0) hn.1
    have e : decide (r < 0) = glt (u * q) (p * l) := by
      show _ = decide _
      rw [decide_eq_decide]
      omega
    show Q (.bl (decide (r < 0))) H1
    rw [e]
    exact k H1 s1
abbrev gle : Int → Int → Bool := fun x y => decide (x ≤ y)
theorem ka_le (TR : TxR K mg) : Kop P w K mg base (gC mg) 6 "__le__" ["self", "other"] (spCmp (gC mg) gle) := by
  have T := TR.T
  obtain ⟨f, fd, h1, h2, F, b⟩ := TR.o_le
  refine ⟨f, fd, h1, h2, b, F.okM sc_le (fun vs H Q E h => ?_) (fun f cdv A outer s H vs Q E hA hr h => ?_)⟩
  · obtain ⟨a, y, u, l, p, q, rfl, _⟩ := h
    rfl
  · obtain ⟨a, y, u, l, p, q, rfl, ha, hy, l0, q0, su, sl, sp, sq, k⟩ := h
    refine ⟨_, (pss_one (ps_ret (pe_cmpR op_le (pe_fld (pe_op (r_sub TR hr) (pv 0) (pv 1)) rfl) (pe_int) (nomark _)))), ?_⟩
    refine ⟨_, rfl, _, rfl, own_sub ha hy l0 q0 su sl sp sq fun z r t H1 s1 ⟨dz, hz⟩ hn => ?_⟩
    refine ⟨z, _, dz, _, _, rfl, hz, TR.cls, TR.nU, rfl, _, _, rfl, rfl, ?_⟩
    have sg := sgn hn.2.2 (Int.mul_pos l0 q0) hn.1
    have e : decide (r ≤ 0) = gle (u * q) (p * l) := by
      show _ = decide _
      rw [decide_eq_decide]
      omega
    show Q (.bl (decide (r ≤ 0))) H1
    rw [e]
    exact k H1 s1
abbrev ggt : Int → Int → Bool := fun x y => decide (y < x)
theorem ka_gt (TR : TxR K mg) : Kop P w K mg base (gC mg) 6 "__gt__" ["self", "other"] (spCmp (gC mg) ggt) := by
  have T := TR.T
  obtain ⟨f, fd, h1, h2, F, b⟩ := TR.o_gt
  refine ⟨f, fd, h1, h2, b, F.okM sc_gt (fun vs H Q E h => ?_) (fun f cdv A outer s H vs Q E hA hr h => ?_)⟩
  · obtain ⟨a, y, u, l, p, q, rfl, _⟩ := h
    rfl
  · obtain ⟨a, y, u, l, p, q, rfl, ha, hy, l0, q0, su, sl, sp, sq, k⟩ := h
    refine ⟨_, (pss_one (ps_ret (pe_cmpR op_gt (pe_fld (pe_op (r_sub TR hr) (pv 0) (pv 1)) rfl) (pe_int) (nomark _)))), ?_⟩
    refine ⟨_, rfl, _, rfl, own_sub ha hy l0 q0 su sl sp sq fun z r t H1 s1 ⟨dz, hz⟩ hn => ?_⟩
    refine ⟨z, _, dz, _, _, rfl, hz, TR.cls, TR.nU, rfl, _, _, rfl, rfl, ?_⟩
    have sg := sgn hn.2.2 (Int.mul_pos l0 q0) hn.1
    have e : decide (0 < r) = ggt (u * q) (p * l) := by
      show _ = decide _
      rw [decide_eq_decide]
      omega
    show Q (.bl (decide (0 < r))) H1
    rw [e]
    exact k H1 s1
abbrev gge : Int → Int → Bool := fun x y => decide (y ≤ x)
theorem ka_ge (TR : TxR K mg) : Kop P w K mg base (gC mg) 6 "__ge__" ["self", "other"] (spCmp (gC mg) gge) := by
  have T := TR.T
  obtain ⟨f, fd, h1, h2, F, b⟩ := TR.o_ge
  refine ⟨f, fd, h1, h2, b, F.okM sc_ge (fun vs H Q E h => ?_) (fun f cdv A outer s H vs Q E hA hr h => ?_)⟩
  · obtain ⟨a, y, u, l, p, q, rfl, _⟩ := h
    rfl
  · obtain ⟨a, y, u, l, p, q, rfl, ha, hy, l0, q0, su, sl, sp, sq, k⟩ := h
    refine ⟨_, (pss_one (ps_ret (pe_cmpR op_ge (pe_fld (pe_op (r_sub TR hr) (pv 0) (pv 1)) rfl) (pe_int) (nomark _)))), ?_⟩
    refine ⟨_, rfl, _, rfl, own_sub ha hy l0 q0 su sl sp sq fun z r t H1 s1 ⟨dz, hz⟩ hn => ?_⟩
    refine ⟨z, _, dz, _, _, rfl, hz, TR.cls, TR.nU, rfl, _, _, rfl, rfl, ?_⟩
    have sg := sgn hn.2.2 (Int.mul_pos l0 q0) hn.1
    have e : decide (0 ≤ r) = gge (u * q) (p * l) := by
      show _ = decide _
      rw [decide_eq_decide]
      omega
    show Q (.bl (decide (0 ≤ r))) H1
    rw [e]
    exact k H1 s1
end
section
variable {X : Cx} {j : Nat}
theorem r_lt (TR : TxR X.K X.mg) (hr : Room j X.A) (hj : 6 ≤ j := by decide) : OpR X (compareOp .Lt) (rOwnC X.K (gC X.mg) (spCmp (gC X.mg) glt)) :=
  op_cmp (op := .Lt) (ka_lt TR) (hr.mono hj)
theorem r_le (TR : TxR X.K X.mg) (hr : Room j X.A) (hj : 6 ≤ j := by decide) : OpR X (compareOp .LtE) (rOwnC X.K (gC X.mg) (spCmp (gC X.mg) gle)) :=
  op_cmp (op := .LtE) (ka_le TR) (hr.mono hj)
theorem r_gt (TR : TxR X.K X.mg) (hr : Room j X.A) (hj : 6 ≤ j := by decide) : OpR X (compareOp .Gt) (rOwnC X.K (gC X.mg) (spCmp (gC X.mg) ggt)) :=
  op_cmp (op := .Gt) (ka_gt TR) (hr.mono hj)
theorem r_ge (TR : TxR X.K X.mg) (hr : Room j X.A) (hj : 6 ≤ j := by decide) : OpR X (compareOp .GtE) (rOwnC X.K (gC X.mg) (spCmp (gC X.mg) gge)) :=
  op_cmp (op := .GtE) (ka_ge TR) (hr.mono hj)
end
end KR

namespace KR
open PySem L2
theorem txt_le {i : Int} (h : i.natAbs.log2 < 1920) : (Str.ofString (toString i)).length ≤ 1921 := by
  rw [ofString_length]
  exact int_text_length_le (k := 1920) (by decide) h
theorem two_ints {a b : Int} (ha : a.natAbs.log2 < 1920) (hb : b.natAbs.log2 < 1920) :
    (PyData.list [.int a, .int b]).showable = true ∧ (PyData.list [.int a, .int b]).depth ≤ 60 ∧ (PyData.list [.int a, .int b]).shown.length ≤ sizeLine := by
  refine ⟨?_, ?_, ?_⟩
  · simp [PyData.showable, PyData.showableAll, ha, hb]
  · simp [PyData.depth, PyData.depthAll]
  · have h1 := txt_le ha
    have h2 := txt_le hb
    show (listText [Str.ofString (toString a), Str.ofString (toString b)]).length ≤ sizeLine
    have : (listText [Str.ofString (toString a), Str.ofString (toString b)]).length ≤ 4000 := by
      show (((((("[" : Str) ++ ("" : String)) ++ Str.ofString (toString a)) ++ (", " : String)) ++ Str.ofString (toString b)) ++ ("]" : Str)).length ≤ 4000
      simp only [strLen_append]
      have e1 : ("[" : Str).length = 1 := by decide +kernel
      have e2 : ("]" : Str).length = 1 := by decide +kernel
      have e3 : (Str.ofString "").length = 0 := by decide +kernel
      have e4 : (Str.ofString ", ").length = 2 := by decide +kernel
      omega
    exact Nat.le_trans this (by decide)
theorem bools6 : ∀ a b c d e f : Bool, (PyData.list [.bool a, .bool b, .bool c, .bool d, .bool e, .bool f]).showable = true ∧
    (PyData.list [.bool a, .bool b, .bool c, .bool d, .bool e, .bool f]).depth ≤ 60 ∧ (PyData.list [.bool a, .bool b, .bool c, .bool d, .bool e, .bool f]).shown.length ≤ 1000 := by decide +kernel
theorem bools5 : ∀ a b c d e : Bool, (PyData.list [.bool a, .bool b, .bool c, .bool d, .bool e]).showable = true ∧
    (PyData.list [.bool a, .bool b, .bool c, .bool d, .bool e]).depth ≤ 60 ∧ (PyData.list [.bool a, .bool b, .bool c, .bool d, .bool e]).shown.length ≤ 1000 := by decide +kernel
theorem lg_of {n : Nat} {i : Int} (h : Sz n i) (h0 : 0 < n) (hn : n ≤ 1920) : i.natAbs.log2 < 1920 := Nat.lt_of_lt_of_le (PySem.Flt.log2_lt_of h0 h) hn
end KR

namespace KR
open PySem L2
section
variable {P : Program} {w : World} {K : PySem.W.Frag} {mg : Str → Option Value} {base : Heap}
theorem PenAt.same {H H' : Hp} {p c : Addr} {ns : List Int} {n : Nat} (h : PenAt H p c ns n) (s : Same H H') : PenAt H' p c ns n := by
  obtain ⟨t, g, a, b, d⟩ := h
  exact ⟨t, g, s _ _ a, s _ _ b, d⟩
theorem PenAt.ne {H : Hp} {p c q : Addr} {ns : List Int} {n : Nat} (h : PenAt H p c ns n) (hq : H q = none) : q ≠ p := by
  obtain ⟨t, g, a, b, d⟩ := h
  intro z
  rw [z, a] at hq
  cases hq
theorem but_but {p : Addr} {H H' H'' : Hp} (h : But p H H') (h' : But p H' H'') : But p H H'' := fun b hb o e => h' b hb o (h b hb o e)
theorem same_but {p : Addr} {H H' H'' : Hp} (h : Same H H') (h' : But p H' H'') : But p H H'' := fun b hb o e => h' b hb o (h b o e)
def spNumber : Sp := fun vs H Q _ => ∃ (p c : Addr) (ns : List Int) (n : Nat), vs = [.ref p] ∧ PenAt H p c ns n ∧ ns.length ≤ 63 ∧ n < 900000 ∧
  ∀ (i : Int) (H' : Hp), Sz 140 i → PenAt H' p c ns (n + 3) → But p H H' → Q (.int i) H'
theorem kp_number (T : Txt K mg) : Kf P w K mg base 3 "_law_number" ["_law_pen_here"] spNumber := by
  refine T.d_number.okF sc_lnumber (fun vs H Q E h => ?_) (fun f cdv A outer s H vs Q E hA hr h => ?_)
  · obtain ⟨p, c, ns, n, rfl, _⟩ := h
    rfl
  · obtain ⟨p, c, ns, n, rfl, hp, hlen, hn, k⟩ := h
    refine ⟨_, (pss_cons (ps_set (i := 1) sc_lnumber.nd rfl (Or.inl rfl) (pe_kf (kp_pick T) hA hr (by rfl) (pa_cons (pv 0) (pa_cons (pe_lst (pa_cons (pe_int) (pa_cons (pe_int) (pa_cons (pe_int) (pa_cons (pe_op op_pow (pe_int) (pe_int)) (pa_cons (pe_op op_pow (pe_int) (pe_int)) pa_nil)))))) pa_nil))))
 (pss_one (ps_ret (pe_op op_mulW (pe_kf (kp_draw T) hA hr (by rfl) (pa_cons (pv 0) (pa_cons (pv 1) pa_nil))) (pe_kf (kp_pick T) hA hr (by rfl) (pa_cons (pv 0) (pa_cons (pe_lst (pa_cons (pe_int) (pa_cons (pe_int) (pa_cons (pe_un un_neg (pe_int)) pa_nil)))) pa_nil))))))), ?_⟩
    refine ⟨_, rfl, _, _, rfl, rfl, ⟨by decide, by decide, by decide⟩, _, _, rfl, rfl, ⟨by decide, by decide, by decide⟩, (by show 5 ≤ sizeLine; decide), fun l hl => ?_⟩
    refine ⟨p, c, l, _, ns, n, rfl, hp.same (Same.new hl), hlen, upd_same, hp.ne hl, by show 0 < 5; decide, by show 5 < 1000000; decide, by omega, fun v H1 hv hp1 b1 => ?_⟩
    obtain ⟨m, rfl, m1, m2⟩ : ∃ m : Int, v = .int m ∧ 1 ≤ m ∧ m.natAbs < 2 ^ 139 := by
      rcases hv with _ | ⟨_, _ | ⟨_, _ | ⟨_, _ | ⟨_, _ | ⟨_, hv⟩⟩⟩⟩⟩
      · exact ⟨2, rfl, by decide, by decide +kernel⟩
      · exact ⟨5, rfl, by decide, by decide +kernel⟩
      · exact ⟨30, rfl, by decide, by decide +kernel⟩
      · exact ⟨_, rfl, by decide +kernel, by decide +kernel⟩
      · exact ⟨_, rfl, by decide +kernel, by decide +kernel⟩
      · cases hv
    refine ⟨_, rfl, _, rfl, p, c, m, ns, n + 1, rfl, hp1, hlen, m1, Nat.lt_trans m2 (by decide +kernel), by omega, fun r H2 r0 r1 hp2 b2 => ?_⟩
    refine ⟨_, rfl, _, rfl, (by show 3 ≤ sizeLine; decide), fun l2 hl2 => ?_⟩
    refine ⟨p, c, l2, _, ns, n + 2, rfl, hp2.same (Same.new hl2), hlen, upd_same, hp2.ne hl2, by show 0 < 3; decide, by show 3 < 1000000; decide, by omega, fun v H3 hv hp3 b3 => ?_⟩
    obtain ⟨g, rfl, g1⟩ : ∃ g : Int, v = .int g ∧ (g = 1 ∨ g = -1) := by
      rcases hv with _ | ⟨_, _ | ⟨_, _ | ⟨_, hv⟩⟩⟩
      · exact ⟨1, rfl, .inl rfl⟩
      · exact ⟨1, rfl, .inl rfl⟩
      · exact ⟨-1, rfl, .inr rfl⟩
      · cases hv
    have g2 : g.natAbs < 2 ^ 1 := by rcases g1 with rfl | rfl <;> decide
    have r2 : r.natAbs < 2 ^ 139 := by omega
    refine ⟨_, _, rfl, rfl, wide_mul r2 g2 (by decide) (by decide) (by decide), ?_⟩
    exact k _ H3 (wide_lt r2 g2) hp3 (but_but (same_but (Same.new hl) b1) (but_but b2 (same_but (Same.new hl2) b3)))
theorem gcd_step {a b : Int} (a0 : 0 ≤ a) (b0 : 0 ≤ b) : Int.gcd b (a % b) = Int.gcd a b := by
  obtain ⟨x, rfl⟩ := Int.eq_ofNat_of_zero_le a0
  obtain ⟨y, rfl⟩ := Int.eq_ofNat_of_zero_le b0
  show Nat.gcd y (x % y) = Nat.gcd x y
  rw [Nat.gcd_comm y, ← Nat.gcd_rec, Nat.gcd_comm]
def spDiv : Sp := fun vs H Q _ => ∃ (n d : Int), vs = [.int n, .int d] ∧ 0 < d ∧ Q (.int (Int.gcd n d : Nat)) H
theorem kp_divisor (T : Txt K mg) : Kf P w K mg base 1 "_law_divisor" ["_law_one", "_law_other"] spDiv := by
  refine T.d_divisor.okF sc_ldivisor (fun vs H Q E h => ?_) (fun f cdv A outer s H vs Q E hA hr h => ?_)
  · obtain ⟨n, d, rfl, _⟩ := h
    rfl
  · obtain ⟨n, d, rfl, d0, k⟩ := h
    refine ⟨_, (pss_cons (ps_par (i := 2) (j := 3) (by rfl) sc_ldivisor.nd rfl rfl (by decide) rfl rfl (pa_cons (pe_callB call_abs (by rfl) (T.nb _ (by decide)) (by decide +kernel) (pa_cons (pe_callTy call_intI (by rfl) (T.nb _ (by decide)) (by decide +kernel) (pa_cons (pv 0) pa_nil)) pa_nil)) (pa_cons (pe_callTy call_intI (by rfl) (T.nb _ (by decide)) (by decide +kernel) (pa_cons (pv 1) pa_nil)) pa_nil)) (by rfl))
 (pss_cons (ps_while PassesOwn.never (pt_cmpR op_ne (pv 3) (pe_int) (nomark _))
 (pss_one (ps_par (i := 2) (j := 3) (by rfl) sc_ldivisor.nd rfl rfl (by decide) rfl rfl (pa_cons (pv 3) (pa_cons (pe_op op_modN (pe_callTy call_intI (by rfl) (T.nb _ (by decide)) (by decide +kernel) (pa_cons (pv 2) pa_nil)) (pv 3)) pa_nil)) (by rfl))))
 (pss_one (ps_ret (pv 2))))), ?_⟩
    refine ⟨_, rfl, n, rfl, n, rfl, _, rfl, d, rfl, _, _, rfl, ?_⟩
    refine ⟨fun m σ' H' => ∃ a b : Int, σ' = [some (V.int n), some (V.int d), some (V.int a), some (V.int b)] ∧ H' = H ∧ 0 ≤ a ∧ 0 ≤ b ∧ b.natAbs = m ∧ Int.gcd a b = Int.gcd n d, ⟨_, _, _, rfl, rfl, ?_, by omega, rfl, ?_⟩, ?_⟩
    · split <;> omega
    · have : (if n < 0 then -n else n) = (n.natAbs : Int) := by split <;> omega
      rw [this]
      simp [Int.gcd]
    · rintro m σ' H' ⟨a, b, rfl, rfl, a0, b0, hm, hg⟩
      refine ⟨_, rfl, rfl, _, rfl, ?_⟩
      refine ite2 (fun c => ?_) (fun c => ?_)
      · have b1 : b ≠ 0 := by
          intro z
          subst z
          simp at c
        refine ⟨fun σ2 H2 => ∃ a b' : Int, σ2 = [some (V.int n), some (V.int d), some (V.int a), some (V.int b')] ∧ H2 = H' ∧ 0 ≤ a ∧ 0 ≤ b' ∧ b' < b ∧ Int.gcd a b' = Int.gcd n d, ?_, ?_⟩
        · rintro σ2 H2 ⟨a2, b2, e1, e2, a3, b3, lt, e3⟩
          exact ⟨b2.natAbs, by omega, a2, b2, e1, e2, a3, b3, rfl, e3⟩
        · refine ⟨_, rfl, _, rfl, a, rfl, _, rfl, _, _, rfl, rfl, b1, _, _, rfl, ?_⟩
          have bp : 0 < b := by omega
          refine ⟨b, _, rfl, rfl, b0, (fmod_bd bp).1, (fmod_bd bp).2, ?_⟩
          rw [Int.fmod_eq_emod_of_nonneg _ b0]
          rw [← hg]
          exact gcd_step a0 b0
      · have b1 : b = 0 := by
          simpa using c
        subst b1
        refine ⟨_, rfl, ?_⟩
        have e : a = ((Int.gcd n d : Nat) : Int) := by
          rw [← hg, Int.gcd_zero_right]
          omega
        rw [e]
        exact k
/-- whether a rate is this fraction -/
def spIs (C : Addr) : Sp := fun vs H Q _ => ∃ (z : Addr) (u l n d : Int), vs = [.ref z, .int n, .int d] ∧ Fld C H z u l ∧ Nrm u l n d ∧ 0 < d ∧ Sz 700 n ∧ Sz 700 d ∧
  ∀ H', Same H H' → Q (.bl true) H'
theorem kp_lis (TR : TxR K mg) : Kp P w K mg base 2 "_law_is" ["_law_rate", "_law_upper", "_law_lower"] (spIs (gC mg)) := by
  have T := TR.T
  refine T.d_lis.ok sc_lis (fun vs H Q E h => ?_) (fun f cdv A outer s H vs Q E hA hr h => ?_)
  · obtain ⟨z, u, l, n, d, rfl, _⟩ := h
    rfl
  · obtain ⟨z, u, l, n, d, rfl, ⟨dx, hz⟩, hn, d0, sn, sd, k⟩ := h
    refine ⟨_, (pss_cons (ps_set (i := 3) sc_lis.nd rfl (Or.inl rfl) (pe_kf (kp_divisor T) hA hr (by rfl) (pa_cons (pv 1) (pa_cons (pv 2) pa_nil))))
 (pss_cons (ps_if (pt_not (pt_val (pe_callB call_isi (by rfl) (T.nb _ (by decide)) (by decide +kernel) (pa_cons (pv 0) (pa_cons (pe_glob (v := .ref (gC mg)) rfl TR.mgC rfl) pa_nil)))))
 (pss_one (ps_ret (pe_bl))) pss_nil)
 (pss_one (ps_ret (pe_cmpR op_eq (pe_callB (call_repq hA hr.units) (by rfl) (T.nb _ (by decide)) (by decide +kernel) (pa_cons (pe_lst (pa_cons (pe_fld (pv 0) rfl) (pa_cons (pe_fld (pv 0) rfl) pa_nil))) pa_nil)) (pe_callB (call_repq hA hr.units) (by rfl) (T.nb _ (by decide)) (by decide +kernel) (pa_cons (pe_lst (pa_cons (pe_op op_fdivW (pv 1) (pv 3)) (pa_cons (pe_op op_fdivW (pv 2) (pv 3)) pa_nil))) pa_nil)) (nomark _)))))), ?_⟩
    refine ⟨_, rfl, _, rfl, n, d, rfl, d0, ?_⟩
    refine ⟨_, rfl, .ref z, _, _, _, true, rfl, .own _, .base (.ins hz TR.cls TR.iC TR.iG TR.iT TR.iM), TR.kC, _, rfl, iteF ?_⟩
    obtain ⟨g0, hm, gd⟩ := nrm_mk (n := n) (d := d) rfl d0
    have eq := nrm_uniq hn hm d0 d0 rfl
    obtain ⟨eu, el⟩ := eq
    have le := nrm_le hn d0
    have lu : u.natAbs.log2 < 1920 := lg_of (Sz.of sn le.1) (by decide) (by decide)
    have ll : l.natAbs.log2 < 1920 := lg_of (Sz.of sd le.2) (by decide) (by decide)
    have hg : CDivW n ((Nat.gcd n.natAbs d.natAbs : Nat) : Int) := wide_div g0 (Nat.lt_of_le_of_lt gd sd) (by decide) (by decide)
    have hg2 : CDivW d ((Nat.gcd n.natAbs d.natAbs : Nat) : Int) := hg
    refine ⟨_, rfl, z, _, dx, _, _, rfl, hz, TR.cls, TR.nU, rfl, _, rfl, z, _, dx, _, _, rfl, hz, TR.cls, TR.nL, rfl, (by show 2 ≤ sizeLine; decide), fun q hq => ?_⟩
    have two := two_ints lu ll
    refine ⟨q, .list [.int u, .int l], rfl, .lst (SqL.of upd_same) (.cons (.int u) (.cons (.int l) .nil)), two.1, two.2.1, two.2.2, ?_⟩
    refine ⟨_, rfl, _, rfl, _, _, rfl, rfl, hg, _, rfl, _, rfl, _, _, rfl, rfl, hg2, (by show 2 ≤ sizeLine; decide), fun q2 hq2 => ?_⟩
    refine ⟨q2, .list [.int u, .int l], rfl, .lst (SqL.of upd_same) ?_, two.1, two.2.1, two.2.2, rfl, ?_⟩
    · rw [eu, el]
      exact .cons (.int _) (.cons (.int _) .nil)
    · rw [decide_eq_true rfl]
      exact k _ ((Same.new hq).trans (Same.new hq2))
end
end KR

set_option exponentiation.threshold 3000
namespace KR
open PySem L2
section
variable {P : Program} {w : World} {K : PySem.W.Frag} {mg : Str → Option Value} {base : Heap}
/-- an object that is the fraction n / d -/
def Rt (C : Addr) (H : Hp) (z : Addr) (u l n d : Int) : Prop := Fld C H z u l ∧ Nrm u l n d ∧ 0 < d ∧ Sz 140 n ∧ Sz 140 d
theorem Rt.same {C : Addr} {H H' : Hp} {z : Addr} {u l n d : Int} (h : Rt C H z u l n d) (s : Same H H') : Rt C H' z u l n d := ⟨h.1.same s, h.2⟩
theorem Sz.up {n m : Nat} {i : Int} (h : Sz n i) (hm : n ≤ m) : Sz m i := Nat.lt_of_lt_of_le h (Nat.pow_le_pow_right (by decide) hm)
theorem Rt.su {C : Addr} {H : Hp} {z : Addr} {u l n d : Int} (h : Rt C H z u l n d) : Sz 300 u := (h.2.2.2.1.of (nrm_le h.2.1 h.2.2.1).1).up (by decide)
theorem Rt.sl {C : Addr} {H : Hp} {z : Addr} {u l n d : Int} (h : Rt C H z u l n d) : Sz 300 l := (h.2.2.2.2.of (nrm_le h.2.1 h.2.2.1).2).up (by decide)
theorem Rt.l0 {C : Addr} {H : Hp} {z : Addr} {u l n d : Int} (h : Rt C H z u l n d) : 0 < l := h.2.1.1
theorem Sz.prod {i j : Int} (hi : Sz 140 i) (hj : Sz 140 j) : Sz 280 (i * j) := wide_lt hi hj
theorem Sz.mulW {i j : Int} (hi : Sz 140 i) (hj : Sz 140 j) : CMulW i j := wide_mul hi hj (by decide) (by decide) (by decide)
theorem Sz.add {n : Nat} {i j : Int} (hi : Sz n i) (hj : Sz n j) : Sz (n + 1) (i + j) := by
  unfold Sz at *
  rw [Nat.pow_succ]
  omega
theorem Sz.sub {n : Nat} {i j : Int} (hi : Sz n i) (hj : Sz n j) : Sz (n + 1) (i - j) := by
  unfold Sz at *
  rw [Nat.pow_succ]
  omega
/-- what _law_is asks, of a new object -/
theorem is_sp {C : Addr} {H : Hp} {z : Addr} {r s n d : Int} {Q : VK} {E : XK} (hf : Fld C H z r s) (hn : Nrm r s n d) (d0 : 0 < d) (sn : Sz 700 n) (sd : Sz 700 d) (k : ∀ H', Same H H' → Q (.bl true) H') :
    spIs C [.ref z, .int n, .int d] H Q E := ⟨z, r, s, n, d, rfl, hf, hn, d0, sn, sd, k⟩
/-- two objects of the class, by !=, when they are the same fraction -/
theorem ne_same {C : Addr} {H : Hp} {x y : Addr} {u l p q n d : Int} {Q : VK} (hx : Fld C H x u l) (hy : Fld C H y p q) (h1 : Nrm u l n d) (h2 : Nrm p q n d) (d0 : 0 < d)
    (k : Q (.bl false) H) : rNeO C (KR.spEq K C) (.ref x) (.ref y) H Q := by
  obtain ⟨dx, ex⟩ := id hx
  obtain ⟨dy, ey⟩ := id hy
  obtain ⟨rfl, rfl⟩ := nrm_uniq h1 h2 d0 d0 rfl
  refine ⟨x, dx, _, y, dy, _, rfl, ex, rfl, ey, x, .ref y, u, l, rfl, hx, .inl ⟨u, l, .inr ⟨y, rfl, hy⟩, h1.1, h2.1, h1.2.1, h2.2.1, true, ?_, k⟩⟩
  rw [decide_eq_true rfl]
theorem notF {C : Addr} : PySem.W.notFirst K C (.ref C) = true := by
  unfold PySem.W.notFirst
  simp
theorem cmp_sp {C : Addr} {H : Hp} {x : Addr} {y : V} {u l p q : Int} {g : Int → Int → Bool} {Q : VK} {t : Value} (hx : Fld C H x u l) (hy : Val C H y p q) (l0 : 0 < l) (q0 : 0 < q) (su : Sz 300 u) (sl : Sz 300 l) (sp : Sz 300 p) (sq : Sz 300 q)
    (ty : TyOf K H y t) (nf : PySem.W.notFirst K C t = true) (k : ∀ H', Same H H' → Q (.bl (g (u * q) (p * l))) H') : rOwnC K C (spCmp C g) (.ref x) y H Q := by
  obtain ⟨dx, ex⟩ := id hx
  exact ⟨x, dx, _, t, rfl, ex, ty, nf, x, y, u, l, p, q, rfl, hx, hy, l0, q0, su, sl, sp, sq, k⟩
theorem eq_sp {C : Addr} {H : Hp} {x : Addr} {y : V} {u l p q : Int} {Q : VK} {t : Value} (hx : Fld C H x u l) (hy : Val C H y p q) (l0 : 0 < l) (q0 : 0 < q) (g1 : Int.gcd u l = 1) (g2 : Int.gcd p q = 1)
    (ty : TyOf K H y t) (nf : PySem.W.notFirst K C t = true) (k : Q (.bl (decide (u * q = p * l))) H) : rOwnC K C (KR.spEq K C) (.ref x) y H Q := by
  obtain ⟨dx, ex⟩ := id hx
  exact ⟨x, dx, _, t, rfl, ex, ty, nf, x, y, u, l, rfl, hx, .inl ⟨p, q, hy, l0, q0, g1, g2, k⟩⟩
theorem ty_rate (TR : TxR K mg) {H : Hp} {z : Addr} {u l : Int} (h : Fld (gC mg) H z u l) : TyOf K H (.ref z) (.ref (gC mg)) := by
  obtain ⟨dx, e⟩ := h
  exact .ins e TR.cls TR.iC TR.iG TR.iT TR.iM
theorem sz1k {n : Nat} (h : n ≤ 1000) : n ≤ sizeLine := Nat.le_trans h (by decide)
def spSums (C : Addr) : Sp := fun vs H Q _ => ∃ (x y : Addr) (u l p q a b c d : Int), vs = [.ref x, .ref y, .int a, .int b, .int c, .int d] ∧ Rt C H x u l a b ∧ Rt C H y p q c d ∧
  ∀ H', Same H H' → Q (.bl true) H'
theorem kp_lsums (TR : TxR K mg) : Kp P w K mg base 7 "_law_sums_right" ["_law_one", "_law_other", "_law_a", "_law_b", "_law_c", "_law_d"] (spSums (gC mg)) := by
  have T := TR.T
  refine T.d_lsums.ok sc_lsums (fun vs H Q E h => ?_) (fun f cdv A outer s H vs Q E hA hr h => ?_)
  · obtain ⟨x, y, u, l, p, q, a, b, c, d, rfl, _⟩ := h
    rfl
  · obtain ⟨x, y, u, l, p, q, a, b, c, d, rfl, hx, hy, k⟩ := h
    refine ⟨_, (pss_cons (ps_if (PW.pt (pw_or (pt_not (pt_val (pe_kp (kp_lis TR) hA hr (by rfl) (pa_cons (pe_op (r_add TR hr) (pv 0) (pv 1)) (pa_cons (pe_op op_add (pe_op op_mulW (pv 2) (pv 5)) (pe_op op_mulW (pv 4) (pv 3))) (pa_cons (pe_op op_mulW (pv 3) (pv 5)) pa_nil)))))) (pw_or1 (pt_not (pt_val (pe_kp (kp_lis TR) hA hr (by rfl) (pa_cons (pe_op (r_sub TR hr) (pv 0) (pv 1)) (pa_cons (pe_op op_sub (pe_op op_mulW (pv 2) (pv 5)) (pe_op op_mulW (pv 4) (pv 3))) (pa_cons (pe_op op_mulW (pv 3) (pv 5)) pa_nil)))))))))
 (pss_one (ps_ret (pe_bl))) pss_nil)
 (pss_cons (ps_par (i := 6) (j := 7) (by rfl) sc_lsums.nd rfl rfl (by decide) rfl rfl (pa_cons (pv 0) (pa_cons (pv 0) pa_nil)) (by rfl))
 (pss_cons (ps_aug (i := 6) sc_lsums.nd rfl (.inl rfl) (pv 1) (r_iadd TR hr))
 (pss_cons (ps_aug (i := 7) sc_lsums.nd rfl (.inl rfl) (pv 1) (r_isub TR hr))
 (pss_cons (ps_if (PW.pt (pw_or (pt_cmpR (r_ne TR hr) (pv 6) (pe_op (r_add TR hr) (pv 0) (pv 1)) (nomark _)) (pw_or (pt_cmpR (r_ne TR hr) (pv 7) (pe_op (r_sub TR hr) (pv 0) (pv 1)) (nomark _)) (pw_or (pt_not (pt_val (pe_kp (kp_lis TR) hA hr (by rfl) (pa_cons (pv 0) (pa_cons (pv 2) (pa_cons (pv 3) pa_nil)))))) (pw_or1 (pt_not (pt_val (pe_kp (kp_lis TR) hA hr (by rfl) (pa_cons (pe_un (r_neg TR hr) (pv 0)) (pa_cons (pe_op op_sub (pe_int) (pv 2)) (pa_cons (pv 3) pa_nil)))))))))))
 (pss_one (ps_ret (pe_bl))) pss_nil)
 (pss_cons (ps_set (i := 8) sc_lsums.nd rfl (Or.inl rfl) (pe_lst (pa_cons (pe_cmpR (r_lt TR hr) (pv 0) (pv 1) (nomark _)) (pa_cons (pe_cmpR (r_le TR hr) (pv 0) (pv 1) (nomark _)) (pa_cons (pe_cmpR (r_gt TR hr) (pv 0) (pv 1) (nomark _)) (pa_cons (pe_cmpR (r_ge TR hr) (pv 0) (pv 1) (nomark _)) (pa_cons (pe_cmpR (r_eq TR hr) (pv 0) (pv 1) (nomark _)) (pa_cons (pe_cmpR (r_ne TR hr) (pv 0) (pv 1) (nomark _)) pa_nil))))))))
 (pss_cons (ps_par (i := 9) (j := 10) (by rfl) sc_lsums.nd rfl rfl (by decide) rfl rfl (pa_cons (pe_op op_mulW (pv 2) (pv 5)) (pa_cons (pe_op op_mulW (pv 4) (pv 3)) pa_nil)) (by rfl))
 (pss_one (ps_ret (pe_cmpR op_eq (pe_callB (call_repq hA hr.units) (by rfl) (T.nb _ (by decide)) (by decide +kernel) (pa_cons (pv 8) pa_nil)) (pe_callB (call_repq hA hr.units) (by rfl) (T.nb _ (by decide)) (by decide +kernel) (pa_cons (pe_lst (pa_cons (pe_cmpR op_lt (pv 9) (pv 10) (nomark _)) (pa_cons (pe_cmpR op_le (pv 9) (pv 10) (nomark _)) (pa_cons (pe_cmpR op_gt (pv 9) (pv 10) (nomark _)) (pa_cons (pe_cmpR op_ge (pv 9) (pv 10) (nomark _)) (pa_cons (pe_cmpR op_eq (pv 9) (pv 10) (nomark _)) (pa_cons (pe_cmpR op_ne (pv 9) (pv 10) (nomark _)) pa_nil))))))) pa_nil)) (nomark _))))))))))), ?_⟩
    obtain ⟨b0, sa, sb⟩ := hx.2.2
    obtain ⟨d0, sc, sd⟩ := hy.2.2
    have bd := Int.mul_pos b0 d0
    have l0 := hx.l0
    have q0 := hy.l0
    have lq := Int.mul_pos l0 q0
    have e1 := hx.2.1.2.2
    have e2 := hy.2.1.2.2
    have addE : (u * q + p * l) * (b * d) = (a * d + c * b) * (l * q) := by grind
    have subE : (u * q - p * l) * (b * d) = (a * d - c * b) * (l * q) := by grind
    refine ⟨_, rfl, _, rfl, own_add hx.1 (.inr ⟨y, rfl, hy.1⟩) l0 q0 hx.su hx.sl hy.su hy.sl fun z1 r1 t1 H1 s1 f1 n1 => ?_⟩
    refine ⟨_, rfl, _, rfl, _, _, rfl, rfl, sa.mulW sd, _, rfl, _, rfl, _, _, rfl, rfl, sc.mulW sb, _, _, rfl, rfl, _, rfl, _, rfl, _, _, rfl, rfl, sb.mulW sd, ?_⟩
    dsimp only [tNil, List.append_nil, List.cons_append, List.nil_append]
    refine is_sp f1 (nrm_re n1 lq addE) bd (((sa.prod sd).add (sc.prod sb)).up (by decide)) ((sb.prod sd).up (by decide)) fun H2 s2 => ⟨_, rfl, iteF ?_⟩
    have hx2 := (hx.same s1).same s2
    have hy2 := (hy.same s1).same s2
    refine ⟨_, rfl, _, rfl, own_sub hx2.1 (.inr ⟨y, rfl, hy2.1⟩) l0 q0 hx.su hx.sl hy.su hy.sl fun z3 r3 t3 H3 s3 f3 n3 => ?_⟩
    refine ⟨_, rfl, _, rfl, _, _, rfl, rfl, sa.mulW sd, _, rfl, _, rfl, _, _, rfl, rfl, sc.mulW sb, _, _, rfl, rfl, _, rfl, _, rfl, _, _, rfl, rfl, sb.mulW sd, ?_⟩
    dsimp only [tNil, List.append_nil, List.cons_append, List.nil_append]
    refine is_sp f3 (nrm_re n3 lq subE) bd (((sa.prod sd).sub (sc.prod sb)).up (by decide)) ((sb.prod sd).up (by decide)) fun H4 s4 => ⟨_, rfl, iteF ?_⟩
    have hx4 := (hx2.same s3).same s4
    have hy4 := (hy2.same s3).same s4
    have s04 := ((s1.trans s2).trans s3).trans s4
    obtain ⟨dy, ey⟩ := id hy4.1
    refine ⟨_, rfl, _, rfl, _, _, rfl, ?_⟩
    refine ⟨_, rfl, _, rfl, y, dy, _, rfl, ey, own_add hx4.1 (.inr ⟨y, rfl, hy4.1⟩) l0 q0 hx.su hx.sl hy.su hy.sl fun z5 r5 t5 H5 s5 f5 n5 => ?_⟩
    have hx5 := hx4.same s5
    have hy5 := hy4.same s5
    obtain ⟨dy5, ey5⟩ := id hy5.1
    refine ⟨_, rfl, _, rfl, y, dy5, _, rfl, ey5, own_sub hx5.1 (.inr ⟨y, rfl, hy5.1⟩) l0 q0 hx.su hx.sl hy.su hy.sl fun z6 r6 t6 H6 s6 f6 n6 => ?_⟩
    have hx6 := hx5.same s6
    have hy6 := hy5.same s6
    refine ⟨_, rfl, _, rfl, _, rfl, own_add hx6.1 (.inr ⟨y, rfl, hy6.1⟩) l0 q0 hx.su hx.sl hy.su hy.sl fun z7 r7 t7 H7 s7 f7 n7 => ?_⟩
    refine ne_same ((f5.same s6).same s7) f7 n5 n7 lq ⟨_, rfl, iteF ?_⟩
    have hx7 := hx6.same s7
    have hy7 := hy6.same s7
    refine ⟨_, rfl, _, rfl, _, rfl, own_sub hx7.1 (.inr ⟨y, rfl, hy7.1⟩) l0 q0 hx.su hx.sl hy.su hy.sl fun z8 r8 t8 H8 s8 f8 n8 => ?_⟩
    refine ne_same ((f6.same s7).same s8) f8 n6 n8 lq ⟨_, rfl, iteF ?_⟩
    have hx8 := hx7.same s8
    have hy8 := hy7.same s8
    refine ⟨_, rfl, _, rfl, _, rfl, ?_⟩
    dsimp only [tNil, List.append_nil, List.cons_append, List.nil_append]
    refine is_sp hx8.1 hx.2.1 b0 (sa.up (by decide)) (sb.up (by decide)) fun H9 s9 => ⟨_, rfl, iteF ?_⟩
    have hx9 := hx8.same s9
    have hy9 := hy8.same s9
    obtain ⟨dx9, ex9⟩ := id hx9.1
    refine ⟨_, rfl, .inr ⟨x, dx9, _, rfl, ex9, x, u, l, rfl, hx9.1, l0, hx.su, hx.sl, fun z10 r10 t10 H10 s10 f10 n10 => ?_⟩⟩
    refine ⟨_, rfl, _, _, rfl, rfl, _, rfl, ?_⟩
    dsimp only [tNil, List.append_nil, List.cons_append, List.nil_append]
    have nE : -u * b = (0 - a) * l := by grind
    refine is_sp f10 (nrm_re n10 l0 nE) b0 (by rw [Int.zero_sub]; exact (sa.up (by decide)).neg) (sb.up (by decide)) fun H11 s11 => ⟨_, rfl, iteF ?_⟩
    have hx11 := (hx9.same s10).same s11
    have hy11 := (hy9.same s10).same s11
    have s0_11 : Same H H11 := ((((((s04.trans s5).trans s6).trans s7).trans s8).trans s9).trans s10).trans s11
    clear f1 f3 f5 f6 f7 f8 f10 n1 n3 n5 n6 n7 n8 n10 ey ey5 ex9 hx2 hx4 hx5 hx6 hx7 hx8 hx9 hy2 hy4 hy5 hy6 hy7 hy8 hy9 s1 s2 s3 s4 s5 s6 s7 s8 s9 s10 s11 s04
    have crs := cross hx.2.1 hy.2.1 b0 d0
    -- the six comparisons
    refine ⟨_, rfl, _, rfl, cmp_sp hx11.1 (.inr ⟨y, rfl, hy11.1⟩) l0 q0 hx.su hx.sl hy.su hy.sl (ty_rate TR hy11.1) notF fun H12 s12 => ?_⟩
    have hx12 := hx11.same s12
    have hy12 := hy11.same s12
    refine ⟨_, rfl, _, rfl, cmp_sp hx12.1 (.inr ⟨y, rfl, hy12.1⟩) l0 q0 hx.su hx.sl hy.su hy.sl (ty_rate TR hy12.1) notF fun H13 s13 => ?_⟩
    have hx13 := hx12.same s13
    have hy13 := hy12.same s13
    refine ⟨_, rfl, _, rfl, cmp_sp hx13.1 (.inr ⟨y, rfl, hy13.1⟩) l0 q0 hx.su hx.sl hy.su hy.sl (ty_rate TR hy13.1) notF fun H14 s14 => ?_⟩
    have hx14 := hx13.same s14
    have hy14 := hy13.same s14
    refine ⟨_, rfl, _, rfl, cmp_sp hx14.1 (.inr ⟨y, rfl, hy14.1⟩) l0 q0 hx.su hx.sl hy.su hy.sl (ty_rate TR hy14.1) notF fun H15 s15 => ?_⟩
    have hx15 := hx14.same s15
    have hy15 := hy14.same s15
    refine ⟨_, rfl, _, rfl, eq_sp hx15.1 (.inr ⟨y, rfl, hy15.1⟩) l0 q0 hx.2.1.2.1 hy.2.1.2.1 (ty_rate TR hy15.1) notF ?_⟩
    obtain ⟨dx15, ex15⟩ := id hx15.1
    obtain ⟨dy15, ey15⟩ := id hy15.1
    refine ⟨_, rfl, _, rfl, x, dx15, _, y, dy15, _, rfl, ex15, rfl, ey15, x, .ref y, u, l, rfl, hx15.1, .inl ⟨p, q, .inr ⟨y, rfl, hy15.1⟩, l0, q0, hx.2.1.2.1, hy.2.1.2.1, _, rfl, ?_⟩⟩
    have s0_15 := (((s0_11.trans s12).trans s13).trans s14).trans s15
    refine ⟨(by show 6 ≤ sizeLine; decide), fun q1 hq1 => ?_⟩
    refine ⟨_, rfl, _, rfl, _, _, rfl, rfl, sa.mulW sd, _, rfl, _, rfl, _, _, rfl, rfl, sc.mulW sb, _, _, rfl, ?_⟩
    have E1 : glt (u * q) (p * l) = decide (a * d < c * b) := by show decide _ = decide _; rw [decide_eq_decide]; omega
    have E2 : gle (u * q) (p * l) = decide (a * d ≤ c * b) := by show decide _ = decide _; rw [decide_eq_decide]; omega
    have E3 : ggt (u * q) (p * l) = decide (c * b < a * d) := by show decide _ = decide _; rw [decide_eq_decide]; omega
    have E4 : gge (u * q) (p * l) = decide (c * b ≤ a * d) := by show decide _ = decide _; rw [decide_eq_decide]; omega
    have E5 : decide (u * q = p * l) = decide (V.int (a * d) = V.int (c * b)) := by
      rw [decide_eq_decide]
      exact ⟨fun z => by rw [show a * d = c * b by omega], fun z => by have := V.int.inj z; omega⟩
    rw [E1, E2, E3, E4, E5]
    have six := bools6 (decide (a * d < c * b)) (decide (a * d ≤ c * b)) (decide (c * b < a * d)) (decide (c * b ≤ a * d)) (decide (V.int (a * d) = V.int (c * b))) (!decide (V.int (a * d) = V.int (c * b)))
    refine ⟨_, rfl, q1, .list [.bool _, .bool _, .bool _, .bool _, .bool _, .bool _], rfl,
      .lst (SqL.of upd_same) (.cons (.bl _) (.cons (.bl _) (.cons (.bl _) (.cons (.bl _) (.cons (.bl _) (.cons (.bl _) .nil)))))), six.1, six.2.1, sz1k six.2.2, ?_⟩
    refine ⟨_, rfl, _, rfl, _, _, rfl, rfl, ?_⟩
    refine ⟨_, rfl, _, rfl, _, _, rfl, rfl, ?_⟩
    refine ⟨_, rfl, _, rfl, _, _, rfl, rfl, ?_⟩
    refine ⟨_, rfl, _, rfl, _, _, rfl, rfl, ?_⟩
    refine ⟨_, rfl, _, rfl, rfl, ?_⟩
    refine ⟨_, rfl, _, rfl, rfl, ?_⟩
    refine ⟨(by show 6 ≤ sizeLine; decide), fun q2 hq2 => ?_⟩
    refine ⟨q2, .list [.bool _, .bool _, .bool _, .bool _, .bool _, .bool _], rfl,
      .lst (SqL.of upd_same) (.cons (.bl _) (.cons (.bl _) (.cons (.bl _) (.cons (.bl _) (.cons (.bl _) (.cons (.bl _) .nil)))))), six.1, six.2.1, sz1k six.2.2, rfl, ?_⟩
    rw [decide_eq_true rfl]
    exact k _ ((s0_15.trans (Same.new hq1)).trans (Same.new hq2))
end
end KR

set_option exponentiation.threshold 3000
namespace KR
open PySem L2
section
variable {P : Program} {w : World} {K : PySem.W.Frag} {mg : Str → Option Value} {base : Heap}
def spWhole (C : Addr) : Sp := fun vs H Q _ => ∃ (x : Addr) (u l a b k : Int), vs = [.ref x, .int a, .int b, .int k] ∧ Rt C H x u l a b ∧ Sz 140 k ∧
  ∀ H', Same H H' → Q (.bl true) H'
theorem kp_lwhole (TR : TxR K mg) : Kp P w K mg base 7 "_law_whole_right" ["_law_one", "_law_a", "_law_b", "_law_k"] (spWhole (gC mg)) := by
  have T := TR.T
  refine T.d_lwhole.ok sc_lwhole (fun vs H Q E h => ?_) (fun f cdv A outer s H vs Q E hA hr h => ?_)
  · obtain ⟨x, u, l, a, b, k, rfl, _⟩ := h
    rfl
  · obtain ⟨x, u, l, a, b, k, rfl, hx, sk, kq⟩ := h
    refine ⟨_, (pss_cons (ps_if (PW.pt (pw_or (pt_not (pt_val (pe_kp (kp_lis TR) hA hr (by rfl) (pa_cons (pe_op (r_add TR hr) (pv 0) (pv 3)) (pa_cons (pe_op op_add (pv 1) (pe_op op_mulW (pv 3) (pv 2))) (pa_cons (pv 2) pa_nil)))))) (pw_or (pt_not (pt_val (pe_kp (kp_lis TR) hA hr (by rfl) (pa_cons (pe_op (r_radd TR hr) (pv 3) (pv 0)) (pa_cons (pe_op op_add (pv 1) (pe_op op_mulW (pv 3) (pv 2))) (pa_cons (pv 2) pa_nil)))))) (pw_or1 (pt_not (pt_val (pe_kp (kp_lis TR) hA hr (by rfl) (pa_cons (pe_op (r_mul TR hr) (pv 0) (pv 3)) (pa_cons (pe_op op_mulW (pv 1) (pv 3)) (pa_cons (pv 2) pa_nil))))))))))
 (pss_one (ps_ret (pe_bl))) pss_nil)
 (pss_cons (ps_if (PW.pt (pw_or (pt_not (pt_val (pe_kp (kp_lis TR) hA hr (by rfl) (pa_cons (pe_op (r_sub TR hr) (pv 0) (pv 3)) (pa_cons (pe_op op_sub (pv 1) (pe_op op_mulW (pv 3) (pv 2))) (pa_cons (pv 2) pa_nil)))))) (pw_or1 (pt_not (pt_val (pe_kp (kp_lis TR) hA hr (by rfl) (pa_cons (pe_op (r_rsub TR hr) (pv 3) (pv 0)) (pa_cons (pe_op op_sub (pe_op op_mulW (pv 3) (pv 2)) (pv 1)) (pa_cons (pv 2) pa_nil)))))))))
 (pss_one (ps_ret (pe_bl))) pss_nil)
 (pss_cons (ps_set (i := 4) sc_lwhole.nd rfl (Or.inl rfl) (pe_lst (pa_cons (pe_cmpR (r_lt TR hr) (pv 0) (pv 3) (nomark _)) (pa_cons (pe_cmpR (r_le TR hr) (pv 0) (pv 3) (nomark _)) (pa_cons (pe_cmpR (r_gt TR hr) (pv 0) (pv 3) (nomark _)) (pa_cons (pe_cmpR (r_ge TR hr) (pv 0) (pv 3) (nomark _)) (pa_cons (pe_cmpR (r_eq TR hr) (pv 0) (pv 3) (nomark _)) pa_nil)))))))
 (pss_one (ps_ret (pe_cmpR op_eq (pe_callB (call_repq hA hr.units) (by rfl) (T.nb _ (by decide)) (by decide +kernel) (pa_cons (pv 4) pa_nil)) (pe_callB (call_repq hA hr.units) (by rfl) (T.nb _ (by decide)) (by decide +kernel) (pa_cons (pe_lst (pa_cons (pe_cmpR op_lt (pv 1) (pe_op op_mulW (pv 3) (pv 2)) (nomark _)) (pa_cons (pe_cmpR op_le (pv 1) (pe_op op_mulW (pv 3) (pv 2)) (nomark _)) (pa_cons (pe_cmpR op_gt (pv 1) (pe_op op_mulW (pv 3) (pv 2)) (nomark _)) (pa_cons (pe_cmpR op_ge (pv 1) (pe_op op_mulW (pv 3) (pv 2)) (nomark _)) (pa_cons (pe_cmpR op_eq (pv 1) (pe_op op_mulW (pv 3) (pv 2)) (nomark _)) pa_nil)))))) pa_nil)) (nomark _))))))), ?_⟩
    obtain ⟨b0, sa, sb⟩ := hx.2.2
    have l0 := hx.l0
    have l1 : 0 < l * 1 := by omega
    have e1 := hx.2.1.2.2
    have sk3 : Sz 300 k := sk.up (by decide)
    have E1 : (u * 1 + k * l) * b = (a + k * b) * (l * 1) := by grind
    have E2 : (u + k * l) * b = (a + k * b) * l := by grind
    have E3 : (u * k) * b = (a * k) * l := by grind
    have E4 : (u * 1 - k * l) * b = (a - k * b) * (l * 1) := by grind
    have E5 : (k * l - u) * b = (k * b - a) * l := by grind
    have sK : Sz 280 (k * b) := sk.prod sb
    have sA : Sz 280 a := sa.up (by decide)
    -- one + k
    refine ⟨_, rfl, _, rfl, own_add hx.1 (.inl ⟨rfl, rfl⟩) l0 (by decide) hx.su hx.sl sk3 Sz.one fun z1 r1 t1 H1 s1 f1 n1 => ?_⟩
    refine ⟨_, rfl, _, rfl, _, rfl, _, _, rfl, rfl, sk.mulW sb, _, _, rfl, rfl, _, rfl, ?_⟩
    dsimp only [tNil, List.append_nil, List.cons_append, List.nil_append]
    refine is_sp f1 (nrm_re n1 l1 E1) b0 ((sA.add sK).up (by decide)) (sb.up (by decide)) fun H2 s2 => ⟨_, rfl, iteF ?_⟩
    have hx2 := (hx.same s1).same s2
    obtain ⟨dx2, ex2⟩ := id hx2.1
    -- k + one
    refine ⟨_, rfl, _, rfl, x, dx2, _, k, rfl, ex2, rfl, x, u, l, k, rfl, hx2.1, l0, hx.su, hx.sl, sk3, fun z3 r3 t3 H3 s3 f3 n3 => ?_⟩
    refine ⟨_, rfl, _, rfl, _, rfl, _, _, rfl, rfl, sk.mulW sb, _, _, rfl, rfl, _, rfl, ?_⟩
    dsimp only [tNil, List.append_nil, List.cons_append, List.nil_append]
    refine is_sp f3 (nrm_re n3 l0 E2) b0 ((sA.add sK).up (by decide)) (sb.up (by decide)) fun H4 s4 => ⟨_, rfl, iteF ?_⟩
    have hx4 := (hx2.same s3).same s4
    obtain ⟨dx4, ex4⟩ := id hx4.1
    -- one * k
    refine ⟨_, rfl, _, rfl, x, dx4, _, rfl, ex4, .inl ⟨_, rfl⟩, x, u, l, k, rfl, hx4.1, l0, hx.su, hx.sl, sk3, fun z5 r5 t5 H5 s5 f5 n5 => ?_⟩
    refine ⟨_, rfl, _, rfl, _, _, rfl, rfl, sa.mulW sk, _, rfl, ?_⟩
    dsimp only [tNil, List.append_nil, List.cons_append, List.nil_append]
    refine is_sp f5 (nrm_re n5 l0 E3) b0 ((sa.prod sk).up (by decide)) (sb.up (by decide)) fun H6 s6 => ⟨_, rfl, iteF ?_⟩
    have hx6 := (hx4.same s5).same s6
    obtain ⟨dx6, ex6⟩ := id hx6.1
    have s06 := ((((s1.trans s2).trans s3).trans s4).trans s5).trans s6
    -- one - k
    refine ⟨_, rfl, _, rfl, own_sub hx6.1 (.inl ⟨rfl, rfl⟩) l0 (by decide) hx.su hx.sl sk3 Sz.one fun z7 r7 t7 H7 s7 f7 n7 => ?_⟩
    refine ⟨_, rfl, _, rfl, _, rfl, _, _, rfl, rfl, sk.mulW sb, _, _, rfl, rfl, _, rfl, ?_⟩
    dsimp only [tNil, List.append_nil, List.cons_append, List.nil_append]
    refine is_sp f7 (nrm_re n7 l1 E4) b0 ((sA.sub sK).up (by decide)) (sb.up (by decide)) fun H8 s8 => ⟨_, rfl, iteF ?_⟩
    have hx8 := (hx6.same s7).same s8
    obtain ⟨dx8, ex8⟩ := id hx8.1
    -- k - one
    refine ⟨_, rfl, _, rfl, x, dx8, _, k, rfl, ex8, rfl, x, u, l, k, rfl, hx8.1, l0, hx.su, hx.sl, sk3, fun z9 r9 t9 H9 s9 f9 n9 => ?_⟩
    refine ⟨_, rfl, _, rfl, _, _, rfl, rfl, sk.mulW sb, _, rfl, _, _, rfl, rfl, _, rfl, ?_⟩
    dsimp only [tNil, List.append_nil, List.cons_append, List.nil_append]
    refine is_sp f9 (nrm_re n9 l0 E5) b0 ((sK.sub sA).up (by decide)) (sb.up (by decide)) fun H10 s10 => ⟨_, rfl, iteF ?_⟩
    have hx11 := (hx8.same s9).same s10
    have s0_11 : Same H H10 := (((s06.trans s7).trans s8).trans s9).trans s10
    clear f1 f3 f5 f7 f9 n1 n3 n5 n7 n9 ex2 ex4 ex6 ex8 hx2 hx4 hx6 hx8 s1 s2 s3 s4 s5 s6 s7 s8 s9 s10 s06 E1 E2 E3 E4 E5
    have crs := cross hx.2.1 (nrm_self (u := k) (l := 1) (by decide) (Int.gcd_one_right k)) b0 (by decide)
    refine ⟨_, rfl, _, rfl, cmp_sp hx11.1 (.inl ⟨rfl, rfl⟩) l0 (by decide) hx.su hx.sl sk3 Sz.one (.int k) TR.nf fun H12 s12 => ?_⟩
    have hx12 := hx11.same s12
    refine ⟨_, rfl, _, rfl, cmp_sp hx12.1 (.inl ⟨rfl, rfl⟩) l0 (by decide) hx.su hx.sl sk3 Sz.one (.int k) TR.nf fun H13 s13 => ?_⟩
    have hx13 := hx12.same s13
    refine ⟨_, rfl, _, rfl, cmp_sp hx13.1 (.inl ⟨rfl, rfl⟩) l0 (by decide) hx.su hx.sl sk3 Sz.one (.int k) TR.nf fun H14 s14 => ?_⟩
    have hx14 := hx13.same s14
    refine ⟨_, rfl, _, rfl, cmp_sp hx14.1 (.inl ⟨rfl, rfl⟩) l0 (by decide) hx.su hx.sl sk3 Sz.one (.int k) TR.nf fun H15 s15 => ?_⟩
    have hx15 := hx14.same s15
    refine ⟨_, rfl, _, rfl, eq_sp hx15.1 (.inl ⟨rfl, rfl⟩) l0 (by decide) hx.2.1.2.1 (Int.gcd_one_right k) (.int k) TR.nf ?_⟩
    have s0_15 := (((s0_11.trans s12).trans s13).trans s14).trans s15
    refine ⟨(by show 5 ≤ sizeLine; decide), fun q1 hq1 => ?_⟩
    have E1 : glt (u * 1) (k * l) = decide (a < k * b) := by show decide _ = decide _; rw [decide_eq_decide]; omega
    have E2 : gle (u * 1) (k * l) = decide (a ≤ k * b) := by show decide _ = decide _; rw [decide_eq_decide]; omega
    have E3 : ggt (u * 1) (k * l) = decide (k * b < a) := by show decide _ = decide _; rw [decide_eq_decide]; omega
    have E4 : gge (u * 1) (k * l) = decide (k * b ≤ a) := by show decide _ = decide _; rw [decide_eq_decide]; omega
    have E5 : decide (u * 1 = k * l) = decide (V.int a = V.int (k * b)) := by
      rw [decide_eq_decide]
      exact ⟨fun z => by rw [show a = k * b by omega], fun z => by have := V.int.inj z; omega⟩
    rw [E1, E2, E3, E4, E5]
    have six := bools5 (decide (a < k * b)) (decide (a ≤ k * b)) (decide (k * b < a)) (decide (k * b ≤ a)) (decide (V.int a = V.int (k * b)))
    refine ⟨_, rfl, q1, .list [.bool _, .bool _, .bool _, .bool _, .bool _], rfl,
      .lst (SqL.of upd_same) (.cons (.bl _) (.cons (.bl _) (.cons (.bl _) (.cons (.bl _) (.cons (.bl _) .nil))))), six.1, six.2.1, sz1k six.2.2, ?_⟩
    refine ⟨_, rfl, _, rfl, _, rfl, _, _, rfl, rfl, sk.mulW sb, _, _, rfl, rfl, ?_⟩
    refine ⟨_, rfl, _, rfl, _, rfl, _, _, rfl, rfl, sk.mulW sb, _, _, rfl, rfl, ?_⟩
    refine ⟨_, rfl, _, rfl, _, rfl, _, _, rfl, rfl, sk.mulW sb, _, _, rfl, rfl, ?_⟩
    refine ⟨_, rfl, _, rfl, _, rfl, _, _, rfl, rfl, sk.mulW sb, _, _, rfl, rfl, ?_⟩
    refine ⟨_, rfl, _, rfl, _, rfl, _, _, rfl, rfl, sk.mulW sb, rfl, ?_⟩
    refine ⟨(by show 5 ≤ sizeLine; decide), fun q2 hq2 => ?_⟩
    refine ⟨q2, .list [.bool _, .bool _, .bool _, .bool _, .bool _], rfl,
      .lst (SqL.of upd_same) (.cons (.bl _) (.cons (.bl _) (.cons (.bl _) (.cons (.bl _) (.cons (.bl _) .nil))))), six.1, six.2.1, sz1k six.2.2, rfl, ?_⟩
    rw [decide_eq_true rfl]
    exact kq _ ((s0_15.trans (Same.new hq1)).trans (Same.new hq2))
end
end KR

set_option exponentiation.threshold 3000
namespace KR
open PySem L2
section
variable {P : Program} {w : World} {K : PySem.W.Frag} {mg : Str → Option Value} {base : Heap}
def spLaw (K : PySem.W.Frag) : Sp := fun vs H Q _ => ∃ (a : Addr) (ns : List Int), vs = [.ref a] ∧ SqL K H a (ns.map V.int) ∧ ns.length ≤ 63 ∧ ∀ H', Q (.bl true) H'
theorem big4 {v : V} (hv : v ∈ [V.int 1, V.int 6, V.int 60, V.int (10 ^ Int.toNat 20)]) : ∃ m : Int, v = .int m ∧ 1 ≤ m ∧ m.natAbs < 2 ^ 100 := by
  rcases hv with _ | ⟨_, _ | ⟨_, _ | ⟨_, _ | ⟨_, hv⟩⟩⟩⟩
  · exact ⟨1, rfl, by decide, by decide +kernel⟩
  · exact ⟨6, rfl, by decide, by decide +kernel⟩
  · exact ⟨60, rfl, by decide, by decide +kernel⟩
  · exact ⟨_, rfl, by decide +kernel, by decide +kernel⟩
  · cases hv
/-- the same by one value, the other one its default -/
theorem new_rate1 {C : Addr} {H : Hp} {n : Int} {R : Addr → Hp → Prop} {E : XK}
    (k : ∀ (z : Addr) (u l : Int) (H' : Hp), Same H H' → Fld C H' z u l → Nrm u l n 1 → R z H') :
    ∀ x dx d, H x = none → H dx = none → dx ≠ x → d = V.int 1 → spInit C (.ref x :: ([V.int n] ++ [d])) (upd (upd H dx (.own x)) x (.ins C dx [])) (fun v H2 => v = .non ∧ R x H2) E := by
  intro x dx d h1 h2 h3 e
  subst e
  exact new_rate (by decide) Sz.one.big k x dx h1 h2 h3
theorem law_g {f : Addr} {fd : FuncData} (TR : TxR K mg) (F : Fun K "law" "law" s_law f fd) :
    FnG P w K mg base CX0 8 f fd ["_law_script"] (spLaw K) := by
  have T := TR.T
  refine F.okG sc_law (fun vs H Q E h => ?_) (fun cdv A outer s H vs Q E hA hr h => ?_)
  · obtain ⟨a, ns, rfl, _⟩ := h
    rfl
  · obtain ⟨a0, ns, rfl, hs, hlen, k⟩ := h
    refine ⟨_, (pss_cons (ps_set (i := 1) sc_law.nd rfl (Or.inl rfl) (pe_kf (kp_pen T) hA hr (by rfl) (pa_cons (pv 0) pa_nil)))
 (pss_cons (ps_for PassesOwn.never rfl (pi_range1 (by rfl) (T.nb _ (by decide)) (pa_cons (pe_int) pa_nil)) (pg_name (i := 2) sc_law.nd rfl (Or.inl rfl))
 (pss_cons (ps_par (i := 3) (j := 4) (by rfl) sc_law.nd rfl rfl (by decide) rfl rfl (pa_cons (pe_kf (kp_number T) hA hr (by rfl) (pa_cons (pv 1) pa_nil)) (pa_cons (pe_op op_add (pe_int) (pe_kf (kp_draw T) hA hr (by rfl) (pa_cons (pv 1) (pa_cons (pe_kf (kp_pick T) hA hr (by rfl) (pa_cons (pv 1) (pa_cons (pe_lst (pa_cons (pe_int) (pa_cons (pe_int) (pa_cons (pe_int) (pa_cons (pe_op op_pow (pe_int) (pe_int)) pa_nil))))) pa_nil))) pa_nil)))) pa_nil)) (by rfl))
 (pss_cons (ps_par (i := 5) (j := 6) (by rfl) sc_law.nd rfl rfl (by decide) rfl rfl (pa_cons (pe_kf (kp_number T) hA hr (by rfl) (pa_cons (pv 1) pa_nil)) (pa_cons (pe_op op_add (pe_int) (pe_kf (kp_draw T) hA hr (by rfl) (pa_cons (pv 1) (pa_cons (pe_kf (kp_pick T) hA hr (by rfl) (pa_cons (pv 1) (pa_cons (pe_lst (pa_cons (pe_int) (pa_cons (pe_int) (pa_cons (pe_int) (pa_cons (pe_op op_pow (pe_int) (pe_int)) pa_nil))))) pa_nil))) pa_nil)))) pa_nil)) (by rfl))
 (pss_cons (ps_par (i := 7) (j := 8) (by rfl) sc_law.nd rfl rfl (by decide) rfl rfl (pa_cons (pe_kf (kp_number T) hA hr (by rfl) (pa_cons (pv 1) pa_nil)) (pa_cons (pe_op op_add (pe_int) (pe_kf (kp_draw T) hA hr (by rfl) (pa_cons (pv 1) (pa_cons (pe_int) pa_nil)))) pa_nil)) (by rfl))
 (pss_cons (ps_par (i := 9) (j := 10) (by rfl) sc_law.nd rfl rfl (by decide) rfl rfl (pa_cons (pe_kmk (kp_init TR) hr (by rfl) TR.mgC (pa_cons (pv 3) (pa_cons (pv 4) pa_nil))) (pa_cons (pe_kmkK (kp_initK TR) hr (by rfl) TR.mgC (pk_cons (pv 6) (pk_cons (pv 5) pk_nil))) pa_nil)) (by rfl))
 (pss_cons (ps_if (PW.pt (pw_or (pt_not (pt_val (pe_kp (kp_lis TR) hA hr (by rfl) (pa_cons (pv 9) (pa_cons (pv 3) (pa_cons (pv 4) pa_nil)))))) (pw_or (pt_cmpR (r_ne TR hr) (pe_kmk (kp_init TR) hr (by rfl) TR.mgC (pa_cons (pe_op op_mulW (pv 8) (pv 3)) (pa_cons (pe_op op_mulW (pv 8) (pv 4)) pa_nil))) (pv 9) (nomark _)) (pw_or1 (pt_not (pt_val (pe_kp (kp_lis TR) hA hr (by rfl) (pa_cons (pe_kmk1 (kp_init TR) hr (by rfl) TR.mgC (pa_cons (pv 7) pa_nil) (fun σ H Q Q' h ⟨v, e, z⟩ => ⟨v, e, h _ _ z⟩)) (pa_cons (pv 7) (pa_cons (pe_int) pa_nil))))))))))
 (pss_one (ps_ret (pe_bl))) pss_nil)
 (pss_cons (ps_if (PW.pt (pw_or (pt_not (pt_val (pe_kp (kp_lsums TR) hA hr (by rfl) (pa_cons (pv 9) (pa_cons (pv 10) (pa_cons (pv 3) (pa_cons (pv 4) (pa_cons (pv 5) (pa_cons (pv 6) pa_nil))))))))) (pw_or1 (pt_not (pt_val (pe_kp (kp_lsums TR) hA hr (by rfl) (pa_cons (pv 9) (pa_cons (pv 9) (pa_cons (pv 3) (pa_cons (pv 4) (pa_cons (pv 3) (pa_cons (pv 4) pa_nil))))))))))))
 (pss_one (ps_ret (pe_bl))) pss_nil)
 (pss_cons (ps_if (PW.pt (pw_or (pt_not (pt_val (pe_kp (kp_lwhole TR) hA hr (by rfl) (pa_cons (pv 9) (pa_cons (pv 3) (pa_cons (pv 4) (pa_cons (pv 7) pa_nil))))))) (pw_or1 (pt_not (pt_val (pe_kp (kp_lwhole TR) hA hr (by rfl) (pa_cons (pe_kmk (kp_init TR) hr (by rfl) TR.mgC (pa_cons (pe_op op_mulW (pv 8) (pv 7)) (pa_cons (pv 8) pa_nil))) (pa_cons (pv 7) (pa_cons (pe_int) (pa_cons (pv 7) pa_nil))))))))))
 (pss_one (ps_ret (pe_bl))) pss_nil)
 (pss_cons (ps_if (pt_cmpR op_ne (pe_callB SkE.call_repr_int (by rfl) (T.nb _ (by decide)) (by decide +kernel) (pa_cons (pe_kpr (kp_floor TR) TR.cls hr (pv 9)) pa_nil)) (pe_callB SkE.call_repr_int (by rfl) (T.nb _ (by decide)) (by decide +kernel) (pa_cons (pe_op op_fdivW (pv 3) (pv 4)) pa_nil)) (nomark _))
 (pss_one (ps_ret (pe_bl))) pss_nil)
 (pss_one (ps_if (pt_cmpR (op_neD hr.units) (pe_lc (own := [("_law_odd", 11)]) (g := gName 11) rfl sc_law.nd (pi_list (pe_lst (pa_cons (pe_non) (pa_cons (pe_str) (pa_cons (pe_tup (pa_cons (pe_int) (pa_cons (pe_int) pa_nil))) (pa_cons (pe_lst pa_nil) (pa_cons (pe_dnewK) (pa_cons (pe_bl) pa_nil)))))))) (blkOk_by (N := n_law) (sc := defScope s_law) (by decide +kernel)) (fun _ _ _ _ _ => pg_name (i := 11) sc_law.nd rfl (Or.inl rfl)) (fun _ _ _ _ _ => (pts_one (pt_cmpR (r_eq (j := 7) TR hr : OpR _ _ (rOwnC K (gC mg) (KR.spEq K (gC mg)))) (pe_kmk1 (j := 7) (kp_init TR) hr (by rfl) TR.mgC (pa_cons (pe_int) pa_nil) (fun σ H Q Q' h z => h _ _ z)) (pv 11) (nomark _)))) (fun _ _ _ _ _ => (pv 11))) (pe_lst pa_nil) (nomark _))
 (pss_one (ps_ret (pe_bl))) pss_nil)))))))))))
 (pss_one (ps_ret ((pe_and (pe_cmpR op_eq (pe_kpr (kp_floor TR) TR.cls hr (pe_kmk (kp_init TR) hr (by rfl) TR.mgC (pa_cons (pe_un un_neg (pe_int)) (pa_cons (pe_int) pa_nil)))) (pe_un un_neg (pe_int)) (nomark _)) (pe_and (pe_cmpR op_eq (pe_fld (pe_kmk (kp_init TR) hr (by rfl) TR.mgC (pa_cons (pe_int) (pa_cons (pe_int) pa_nil))) rfl) (pe_int) (nomark _)) (pe_one (pe_cmpR op_eq (pe_fld (pe_kmk (kp_init TR) hr (by rfl) TR.mgC (pa_cons (pe_int) (pa_cons (pe_int) pa_nil))) rfl) (pe_int) (nomark _)))))))))), ?_⟩
    refine ⟨_, rfl, a0, ns, rfl, hs, hlen, fun pp cc H1 hp hc s1 pen => ?_⟩
    dsimp only [gName, tSeq, tAsg]
    refine ⟨_, rfl, by decide, by decide, ?_⟩
    refine for_range (lo := 0) (n := 8) (fun i σ H' => ∃ (n : Nat) (v2 v3 v4 v5 v6 v7 v8 v9 v10 : Option V), n ≤ 100 * i ∧ PenAt H' pp cc ns n ∧
      σ = [some (.ref a0), some (.ref pp), v2, v3, v4, v5, v6, v7, v8, v9, v10, none]) ⟨0, _, _, _, _, _, _, _, _, _, by omega, pen, rfl⟩ ?_ ?_
    · rintro i σ H0 hi ⟨n, v2, v3, v4, v5, v6, v7, v8, v9, v10, hn, pen, rfl⟩
      -- a, b
      refine ⟨_, rfl, pp, cc, ns, n, rfl, pen, hlen, by omega, fun a H2 sa pen2 _ => ?_⟩
      refine ⟨_, rfl, _, rfl, _, _, rfl, rfl, ⟨by decide, by decide, by decide⟩, (by show 4 ≤ sizeLine; decide), fun l hl => ?_⟩
      refine ⟨pp, cc, l, _, ns, n + 3, rfl, pen2.same (Same.new hl), hlen, upd_same, pen2.ne hl, by show 0 < 4; decide, by show 4 < 1000000; decide, by omega, fun v H3 hv pen3 _ => ?_⟩
      obtain ⟨m, rfl, m1, m2⟩ := big4 hv
      refine ⟨pp, cc, m, ns, n + 4, rfl, pen3, hlen, m1, Nat.lt_trans m2 (by decide +kernel), by omega, fun r H4 r0 r1 pen4 _ => ?_⟩
      have b0 : 0 < 1 + r := by omega
      have sb : Sz 140 (1 + r) := by
        unfold Sz
        omega
      refine ⟨_, _, rfl, rfl, _, _, rfl, ?_⟩
      -- c, d
      refine ⟨_, rfl, pp, cc, ns, n + 5, rfl, pen4, hlen, by omega, fun c H5 sc pen5 _ => ?_⟩
      refine ⟨_, rfl, _, rfl, _, _, rfl, rfl, ⟨by decide, by decide, by decide⟩, (by show 4 ≤ sizeLine; decide), fun l hl => ?_⟩
      refine ⟨pp, cc, l, _, ns, n + 8, rfl, pen5.same (Same.new hl), hlen, upd_same, pen5.ne hl, by show 0 < 4; decide, by show 4 < 1000000; decide, by omega, fun v H6 hv pen6 _ => ?_⟩
      obtain ⟨m', rfl, m1', m2'⟩ := big4 hv
      refine ⟨pp, cc, m', ns, n + 9, rfl, pen6, hlen, m1', Nat.lt_trans m2' (by decide +kernel), by omega, fun r' H7 r0' r1' pen7 _ => ?_⟩
      have d0 : 0 < 1 + r' := by omega
      have sd : Sz 140 (1 + r') := by
        unfold Sz
        omega
      refine ⟨_, _, rfl, rfl, _, _, rfl, ?_⟩
      -- k, by
      refine ⟨_, rfl, pp, cc, ns, n + 10, rfl, pen7, hlen, by omega, fun kk H8 sk pen8 _ => ?_⟩
      refine ⟨_, rfl, pp, cc, 9, ns, n + 13, rfl, pen8, hlen, by decide, by decide +kernel, by omega, fun y H9 y0 y1 pen9 _ => ?_⟩
      have t0 : 0 < 1 + y := by omega
      have st : Sz 140 (1 + y) := by
        have : (1 + y).natAbs < 2 ^ 4 := by omega
        exact Nat.lt_trans this (by decide +kernel)
      refine ⟨_, _, rfl, rfl, _, _, rfl, ?_⟩
      -- one, other
      have sb3 : Sz 300 (1 + r) := sb.up (by decide)
      have sd3 : Sz 300 (1 + r') := sd.up (by decide)
      refine ⟨_, rfl, _, rfl, ?_⟩
      dsimp only [tNil, List.append_nil, List.cons_append, List.nil_append]
      refine new_rate b0 sb3.big fun z1 u1 l1 G1 s1 f1 n1 => ?_
      refine ⟨_, rfl, _, rfl, ?_⟩
      dsimp only [tNil, List.append_nil, List.cons_append, List.nil_append]
      refine ⟨rfl, rfl, ?_⟩
      refine new_rate d0 sd3.big fun z2 u2 l2 G2 s2 f2 n2 => ?_
      have hx : Rt (gC mg) G2 z1 u1 l1 a (1 + r) := ⟨f1.same s2, n1, b0, sa, sb⟩
      have hy : Rt (gC mg) G2 z2 u2 l2 c (1 + r') := ⟨f2, n2, d0, sc, sd⟩
      have pen10 := (pen9.same s1).same s2
      clear f1 f2
      refine ⟨_, _, rfl, ?_⟩
      refine ⟨_, rfl, _, rfl, _, rfl, ?_⟩
      dsimp only [tNil, List.append_nil, List.cons_append, List.nil_append]
      refine is_sp hx.1 n1 b0 (sa.up (by decide)) (sb.up (by decide)) fun G3 s3 => ⟨_, rfl, iteF ?_⟩
      have hx3 := hx.same s3
      refine ⟨_, rfl, _, rfl, _, _, rfl, rfl, st.mulW sa, _, rfl, _, rfl, _, _, rfl, rfl, st.mulW sb, ?_⟩
      dsimp only [tNil, List.append_nil, List.cons_append, List.nil_append]
      refine new_rate (Int.mul_pos t0 b0) ((st.prod sb).up (by decide)) fun z4 u4 l4 G4 s4 f4 n4 => ?_
      have hx4 := hx3.same s4
      have n4' : Nrm u4 l4 a (1 + r) := nrm_re n4 (Int.mul_pos t0 b0) (by grind)
      refine ⟨_, rfl, ne_same f4 hx4.1 n4' n1 b0 ⟨_, rfl, iteF ?_⟩⟩
      refine ⟨_, rfl, ?_⟩
      dsimp only [tNil]
      refine new_rate1 fun z5 u5 l5 G5 s5 f5 n5 => ?_
      refine ⟨_, rfl, ?_⟩
      dsimp only [tCons, tC, tNil, List.append_nil, List.cons_append, List.nil_append]
      refine is_sp f5 n5 (by decide) (sk.up (by decide)) (Sz.one.up (by decide)) fun G6 s6 => ⟨_, rfl, iteF ?_⟩
      have sG : Same G2 G6 := ((s3.trans s4).trans s5).trans s6
      have hx6 := hx.same sG
      have hy6 := hy.same sG
      clear hx3 hx4 f4 f5 n4 n5
      -- the sums
      refine ⟨_, rfl, _, rfl, _, rfl, _, rfl, _, rfl, _, rfl, ?_⟩
      dsimp only [tNil, List.append_nil, List.cons_append, List.nil_append]
      refine ⟨z1, z2, u1, l1, u2, l2, a, 1 + r, c, 1 + r', rfl, hx6, hy6, fun G7 s7 => ⟨_, rfl, iteF ?_⟩⟩
      have hx7 := hx6.same s7
      refine ⟨_, rfl, _, rfl, _, rfl, _, rfl, _, rfl, _, rfl, ?_⟩
      dsimp only [tNil, List.append_nil, List.cons_append, List.nil_append]
      refine ⟨z1, z1, u1, l1, u1, l1, a, 1 + r, a, 1 + r, rfl, hx7, hx7, fun G8 s8 => ⟨_, rfl, iteF ?_⟩⟩
      have hx8 := hx7.same s8
      -- with an integer
      refine ⟨_, rfl, _, rfl, _, rfl, _, rfl, ?_⟩
      dsimp only [tNil, List.append_nil, List.cons_append, List.nil_append]
      refine ⟨z1, u1, l1, a, 1 + r, kk, rfl, hx8, sk, fun G9 s9 => ⟨_, rfl, iteF ?_⟩⟩
      have hx9 := hx8.same s9
      refine ⟨_, rfl, _, rfl, _, _, rfl, rfl, st.mulW sk, _, rfl, ?_⟩
      dsimp only [tNil, List.append_nil, List.cons_append, List.nil_append]
      refine new_rate t0 (st.up (by decide)) fun z10 u10 l10 G10 s10 f10 n10 => ?_
      refine ⟨_, rfl, _, rfl, ?_⟩
      dsimp only [tCons, tC, tNil, List.append_nil, List.cons_append, List.nil_append]
      refine ⟨z10, u10, l10, kk, 1, kk, rfl, ⟨f10, nrm_re n10 t0 (by grind), by decide, sk, by unfold Sz; decide +kernel⟩, sk, fun G11 s11 => ⟨_, rfl, iteF ?_⟩⟩
      have sG2 : Same G2 G11 := ((((sG.trans s7).trans s8).trans s9).trans s10).trans s11
      have hx11 := hx.same sG2
      have pen11 := pen10.same sG2
      clear hx6 hy6 hx7 hx8 hx9 f10 n10
      -- the floor
      obtain ⟨dz, ez⟩ := id hx11.1
      have fl := floor_nrm n1 b0
      have lf : (u1 / l1).natAbs.log2 < 1920 := lg_of (Sz.of hx11.su (Int.natAbs_ediv_le_natAbs _ _)) (by decide) (by decide)
      refine ⟨_, rfl, z1, dz, _, rfl, ez, z1, u1, l1, rfl, hx11.1, hx11.l0, hx11.sl, _, rfl, lf, ?_⟩
      refine ⟨_, rfl, _, rfl, _, _, rfl, rfl, wide_div b0 sb (by decide) (by decide), _, rfl, fl ▸ lf, rfl, ?_⟩
      refine ⟨_, rfl, ?_⟩
      refine ite2 (fun c => absurd c ?_) (fun _ => ?_)
      · simp [fl]
      -- values of other kinds
      refine ⟨(by show 2 ≤ sizeLine; decide), fun t ht => ?_⟩
      refine ⟨(by show 0 ≤ sizeLine; decide), fun l hl => ?_⟩
      refine fun d hd => ?_
      refine ⟨(by show 6 ≤ sizeLine; decide), fun q hq => ?_⟩
      have st1 : Same G11 (upd (upd (upd (upd G11 t (.tup [.int 1, .int 1])) l (.lst [])) d (.dK [])) q (.lst [.non, .str "1", .ref t, .ref l, .ref d, .bl true])) := (((Same.new ht).trans (Same.new hl)).trans (Same.new hd)).trans (Same.new hq)
      generalize hQQ : upd (upd (upd (upd G11 t (.tup [.int 1, .int 1])) l (.lst [])) d (.dK [])) q (.lst [.non, .str "1", .ref t, .ref l, .ref d, .bl true]) = HQ at *
      have eq1 : HQ q = some (.lst [.non, .str "1", .ref t, .ref l, .ref d, .bl true]) := by rw [← hQQ]; exact upd_same
      have ed : HQ d = some (.dK []) := by rw [← hQQ]; exact upd_new hq upd_same
      have el : HQ l = some (.lst []) := by rw [← hQQ]; exact upd_new hq (upd_new hd upd_same)
      have et : HQ t = some (.tup [.int 1, .int 1]) := by rw [← hQQ]; exact upd_new hq (upd_new hd (upd_new hl upd_same))
      have odd : ∀ x ∈ [V.non, V.str "1", V.ref t, V.ref l, V.ref d, V.bl true], ∀ H', Same HQ H' → Odd K (gC mg) H' x := by
        intro x hx H' sH
        have kx : ∀ T ∈ ["NoneType", "str", "tuple", "list", "dict", "bool"], IntR K (.type T) false → TyOf K H' x (.type T) → Odd K (gC mg) H' x :=
          fun T hT hi ty => ⟨.type T, ty, hi, (TR.kX T hT).1, (TR.kX T hT).2⟩
        rcases hx with _ | ⟨_, _ | ⟨_, _ | ⟨_, _ | ⟨_, _ | ⟨_, _ | ⟨_, hv⟩⟩⟩⟩⟩⟩
        · exact kx "NoneType" (by decide) (intR_no (by decide)) .non
        · exact kx "str" (by decide) (intR_no (by decide)) (.str _)
        · exact kx "tuple" (by decide) (intR_no (by decide)) (.tup (sH _ _ et))
        · exact kx "list" (by decide) (intR_no (by decide)) (.lst (sH _ _ el))
        · exact kx "dict" (by decide) (intR_no (by decide)) (.dK (sH _ _ ed))
        · exact kx "bool" (by decide) intR_bool (.bl _)
        · cases hv
      refine ⟨q, rfl, ⟨_, SqL.of eq1⟩, fun D hD => ?_⟩
      refine lc_list (K := K) (a := q) (xs := [.non, .str "1", .ref t, .ref l, .ref d, .bl true]) (fun i H3 => H3 D = some (.lst []) ∧ Same HQ H3) ⟨upd_same, Same.new hD⟩ ?_ ?_ ?_
      · rintro i H3 _ ⟨_, s3⟩
        exact SqL.of (s3 _ _ eq1)
      · rintro i x H3 hx ⟨e3, s3⟩
        refine ⟨rfl, ?_⟩
        dsimp only [tTest, tOp, tMake1, tCons, tC, tNil]
        refine new_rate1 fun z u l H4 s4 f4 n4 => ?_
        have od := odd x (List.mem_of_getElem? hx) H4 (s3.trans s4)
        obtain ⟨ty, h1, h2, h3, h4⟩ := id od
        obtain ⟨dz, ez⟩ := id f4
        refine ⟨x, rfl, z, dz, _, ty, rfl, ez, h1, h4, ⟨z, x, u, l, rfl, f4, .inr ⟨od, ?_⟩⟩⟩
        exact ⟨_, rfl, iteF ⟨s4 _ _ e3, s3.trans s4⟩⟩
      rintro H3 ⟨e3, s3⟩
      refine ⟨by decide, fun l2 hl2 => ?_⟩
      refine ⟨_, _, .lst (SqL.of (upd_new hl2 e3)) .nil, .lst (SqL.of upd_same) .nil, by decide, rfl, _, rfl, ?_⟩
      rw [eqv_nil]
      refine iteF ?_
      refine ⟨n + 14, _, _, _, _, _, _, _, _, _, by omega, pen11.same ((st1.trans s3).trans (Same.new hl2)), rfl⟩
    · rintro σ H' ⟨n, v2, v3, v4, v5, v6, v7, v8, v9, v10, hn, pen, rfl⟩
      clear s1 hp hc
      refine ⟨7, rfl, ?_⟩
      dsimp only [tCons, tC, tNil, List.append_nil, List.cons_append, List.nil_append]
      refine new_rate (by decide) (Sz.up (n := 2) (by unfold Sz; decide) (by decide)) fun z u l G1 s1 f1 n1 => ?_
      obtain ⟨dz, ez⟩ := id f1
      obtain ⟨rfl, rfl⟩ := nrm_uniq n1 (show Nrm (-7) 2 (-7) 2 by refine ⟨by decide, by decide, by decide⟩) (by decide) (by decide) rfl
      refine ⟨z, dz, _, rfl, ez, z, _, _, rfl, f1, by decide, Sz.up (n := 2) (by unfold Sz; decide) (by decide), ?_⟩
      refine ⟨4, rfl, rfl, _, rfl, iteT ?_⟩
      refine new_rate (by decide) (Sz.up (n := 3) (by unfold Sz; decide) (by decide)) fun z2 u2 l2 G2 s2 f2 n2 => ?_
      obtain ⟨dz2, ez2⟩ := id f2
      obtain ⟨rfl, rfl⟩ := nrm_uniq n2 (show Nrm 3 2 6 4 by refine ⟨by decide, by decide, by decide⟩) (by decide) (by decide) rfl
      refine ⟨z2, _, dz2, _, _, rfl, ez2, TR.cls, TR.nU, rfl, rfl, _, rfl, iteT ?_⟩
      refine new_rate (by decide) (Sz.up (n := 3) (by unfold Sz; decide) (by decide)) fun z3 u3 l3 G3 s3 f3 n3 => ?_
      obtain ⟨dz3, ez3⟩ := id f3
      obtain ⟨rfl, rfl⟩ := nrm_uniq n3 (show Nrm 0 1 0 5 by refine ⟨by decide, by decide, by decide⟩) (by decide) (by decide) rfl
      refine ⟨z3, _, dz3, _, _, rfl, ez3, TR.cls, TR.nL, rfl, rfl, ?_⟩
      exact k _
end
end KR

namespace KR
open PySem L2
def clsB (K : PySem.W.Frag) (C : Addr) : Bool :=
  decide (PySem.W.plainGet K C Str.empty = true) && (decide (PySem.W.hasDictIn K C = true) && (decide (PySem.W.plainOver K C = true) && (decide (PySem.W.findIn K (.ref C) "__setattr__" = some (some (.builtin "object.__setattr__"))) && (decide (PySem.W.findIn K (.ref C) "upper" = some none) && (decide (PySem.W.findIn K (.ref C) "lower" = some none) && (decide (PySem.W.makesIn K C = true) && (decide (PySem.W.keepIn K (.ref C) = true) && (decide (PySem.W.selfFirst K C = true) && (decide (PySem.W.plainIn K C = true) && (decide (PySem.W.subIn K (.ref C) (.type "object") = some true) && (decide (PySem.W.subIn K (.type "int") (.ref C) = some false) && (decide (PySem.W.subIn K (.ref C) (.type "int") = some false) && (decide (PySem.W.findIn K (.ref C) "__class__" = some (some (.builtin "object.__class__"))) && (decide (PySem.W.specialIn K (.builtin "object.__class__") "__get__" = some (some (.builtin "getset_descriptor.__get__"))) && (decide (PySem.W.takesIn K (.builtin "object.__class__") = some true) && (decide (PySem.W.mroIn K C (.type "object") = some true) && (decide (PySem.W.kitOne K (.ref C) (.type "int") = some false) && (decide (PySem.W.kitOne K (.ref C) (.ref C) = some true) && (decide (PySem.W.notFirst K C (.type "int") = true) && (decide (PySem.W.findIn K (.ref C) "__rmul__" = some none) && (decide (PySem.W.findIn K (.ref C) "__iadd__" = some none) && (decide (PySem.W.findIn K (.ref C) "__isub__" = some none) && (decide (PySem.W.findIn K (.ref C) "__ne__" = some (some (.builtin "object.__ne__"))) && (["NoneType", "str", "tuple", "list", "dict", "bool"].all fun T => decide (PySem.W.kitOne K (.type T) (.ref C) = some false) && decide (PySem.W.notFirst K C (.type T) = true)))))))))))))))))))))))))
def chk (K : PySem.W.Frag) : Bool :=
  (blts.all fun x => decide (PySem.W.nsIn K mainGlobals x = some none)) &&
  (decide (PySem.W.nsIn K mainGlobals "gcd" = some (some (.builtin "math.gcd"))) &&
  (match PySem.W.nsIn K mainGlobals "Rate" with
    | some (some (.ref C)) => clsB K C
    | _ => false))
def dflI (K : PySem.W.Frag) (T : Addr) : Bool := match K.lookup T with
  | some ⟨_, _, .seq its _, _⟩ => match its.toList with
    | [.int i _] => decide (i = 1)
    | _ => false
  | _ => false
section
variable {K : PySem.W.Frag} {mg : Str → Option Value} {h : Heap}
theorem dflI_of {T : Addr} (e : dflI K T = true) : DflV K (.ref T) [.int 1] := by
  unfold dflI at e
  split at e
  · rename_i c dd its n sl ho
    split at e
    · rename_i i tk hi
      have : i = 1 := of_decide_eq_true e
      subst this
      refine .inr ⟨by simp, T, _, [.int 1 tk], n, rfl, ho, ?_, .cons ⟨tk, rfl⟩ .nil⟩
      show Data.seq its n = Data.seq [Value.int 1 tk].toArray n
      rw [← hi]
    · cases e
  · cases e
theorem md0 {x q : Str} {st : Stmt} {f : Addr} {od an : Option Addr} {sl : Array (Option Value)} {oc kV dc pm cd ct : Value}
    (l : K.lookup f = some ⟨oc, od, .func (PySem.W.fnOf x q (defArgs st) (defBody st) (defScope st) .none kV dc pm an cd ct), sl⟩)
    (c : PySem.W.codeIn K cd q = true) (k : PySem.W.keepIn K (.ref f) = true) :
    MD K x q st [] f (PySem.W.fnOf x q (defArgs st) (defBody st) (defScope st) .none kV dc pm an cd ct) :=
  ⟨⟨oc, od, .none, kV, dc, pm, an, cd, ct, sl, rfl, l, c, .inl ⟨rfl, rfl⟩, .inl rfl⟩, k⟩
theorem md1 {x q : Str} {st : Stmt} {f T : Addr} {dvs : List V} {od an : Option Addr} {sl : Array (Option Value)} {oc kV dc pm cd ct : Value}
    (l : K.lookup f = some ⟨oc, od, .func (PySem.W.fnOf x q (defArgs st) (defBody st) (defScope st) (.ref T) kV dc pm an cd ct), sl⟩)
    (c : PySem.W.codeIn K cd q = true) (k : PySem.W.keepIn K (.ref f) = true) (d : DflV K (.ref T) dvs) :
    MD K x q st dvs f (PySem.W.fnOf x q (defArgs st) (defBody st) (defScope st) (.ref T) kV dc pm an cd ct) :=
  ⟨⟨oc, od, .ref T, kV, dc, pm, an, cd, ct, sl, rfl, l, c, d, .inl rfl⟩, k⟩
theorem prop_mk {C p g : Addr} {f : Str} {rest : List Value} (a : PySem.W.findIn K (.ref C) f = some (some (.ref p)))
    (b : PySem.W.recIn K p "property" = some (.ref g :: rest)) (c : PySem.W.specialIn K (.ref p) "__get__" = some (some (.builtin "property.__get__")))
    (d : PySem.W.takesIn K (.ref p) = some true) : PropOf K C f p g := ⟨a, c, d, rest, b⟩
end
theorem fin_mk {P : Program} {w : World} {K : PySem.W.Frag} {mg : Str → Option Value} {h : Heap} {fa : Addr} (X : K.In h) (G : h.Ns mainGlobals mg)
    (hmg : mg "law" = some (.ref fa)) (c : chk K = true)
    {C : Addr}
    {f0 : Addr} {od0 an0 : Option Addr} {sl0 : Array (Option Value)} {oc0 kV0 dc0 pm0 cd0 ct0 : Value}
    {f1 : Addr} {od1 an1 : Option Addr} {sl1 : Array (Option Value)} {oc1 kV1 dc1 pm1 cd1 ct1 : Value}
    {f2 : Addr} {od2 an2 : Option Addr} {sl2 : Array (Option Value)} {oc2 kV2 dc2 pm2 cd2 ct2 : Value}
    {f3 : Addr} {od3 an3 : Option Addr} {sl3 : Array (Option Value)} {oc3 kV3 dc3 pm3 cd3 ct3 : Value}
    {f4 : Addr} {od4 an4 : Option Addr} {sl4 : Array (Option Value)} {oc4 kV4 dc4 pm4 cd4 ct4 : Value}
    {f5 : Addr} {od5 an5 : Option Addr} {sl5 : Array (Option Value)} {oc5 kV5 dc5 pm5 cd5 ct5 : Value}
    {f6 : Addr} {od6 an6 : Option Addr} {sl6 : Array (Option Value)} {oc6 kV6 dc6 pm6 cd6 ct6 : Value}
    {f7 : Addr} {od7 an7 : Option Addr} {sl7 : Array (Option Value)} {oc7 kV7 dc7 pm7 cd7 ct7 : Value}
    {f8 : Addr} {od8 an8 : Option Addr} {sl8 : Array (Option Value)} {oc8 kV8 dc8 pm8 cd8 ct8 : Value}
    {f9 : Addr} {od9 an9 : Option Addr} {sl9 : Array (Option Value)} {oc9 kV9 dc9 pm9 cd9 ct9 : Value}
    {f20 : Addr} {od20 an20 : Option Addr} {sl20 : Array (Option Value)} {oc20 kV20 dc20 pm20 cd20 ct20 : Value} {T20 : Addr}
    {f21 : Addr} {od21 an21 : Option Addr} {sl21 : Array (Option Value)} {oc21 kV21 dc21 pm21 cd21 ct21 : Value} {p21 : Addr} {r21 : List Value}
    {f30 : Addr} {od30 an30 : Option Addr} {sl30 : Array (Option Value)} {oc30 kV30 dc30 pm30 cd30 ct30 : Value}
    {f31 : Addr} {od31 an31 : Option Addr} {sl31 : Array (Option Value)} {oc31 kV31 dc31 pm31 cd31 ct31 : Value}
    {f32 : Addr} {od32 an32 : Option Addr} {sl32 : Array (Option Value)} {oc32 kV32 dc32 pm32 cd32 ct32 : Value}
    {f33 : Addr} {od33 an33 : Option Addr} {sl33 : Array (Option Value)} {oc33 kV33 dc33 pm33 cd33 ct33 : Value}
    {f34 : Addr} {od34 an34 : Option Addr} {sl34 : Array (Option Value)} {oc34 kV34 dc34 pm34 cd34 ct34 : Value}
    {f35 : Addr} {od35 an35 : Option Addr} {sl35 : Array (Option Value)} {oc35 kV35 dc35 pm35 cd35 ct35 : Value}
    {f36 : Addr} {od36 an36 : Option Addr} {sl36 : Array (Option Value)} {oc36 kV36 dc36 pm36 cd36 ct36 : Value}
    {f37 : Addr} {od37 an37 : Option Addr} {sl37 : Array (Option Value)} {oc37 kV37 dc37 pm37 cd37 ct37 : Value}
    {f38 : Addr} {od38 an38 : Option Addr} {sl38 : Array (Option Value)} {oc38 kV38 dc38 pm38 cd38 ct38 : Value}
    {f39 : Addr} {od39 an39 : Option Addr} {sl39 : Array (Option Value)} {oc39 kV39 dc39 pm39 cd39 ct39 : Value}
    {f40 : Addr} {od40 an40 : Option Addr} {sl40 : Array (Option Value)} {oc40 kV40 dc40 pm40 cd40 ct40 : Value}
    (a0 : PySem.W.nsIn K mainGlobals "is_integer" = some (some (.ref f0)))
    (l0 : K.lookup f0 = some ⟨oc0, od0, .func (PySem.W.fnOf "is_integer" "is_integer" (defArgs s_isint) (defBody s_isint) (defScope s_isint) .none kV0 dc0 pm0 an0 cd0 ct0), sl0⟩)
    (c0 : PySem.W.codeIn K cd0 "is_integer" = true) (k0 : PySem.W.keepIn K (.ref f0) = true)
    (a1 : PySem.W.nsIn K mainGlobals "_law_pen" = some (some (.ref f1)))
    (l1 : K.lookup f1 = some ⟨oc1, od1, .func (PySem.W.fnOf "_law_pen" "_law_pen" (defArgs s_lpen) (defBody s_lpen) (defScope s_lpen) .none kV1 dc1 pm1 an1 cd1 ct1), sl1⟩)
    (c1 : PySem.W.codeIn K cd1 "_law_pen" = true) (k1 : PySem.W.keepIn K (.ref f1) = true)
    (a2 : PySem.W.nsIn K mainGlobals "_law_draw" = some (some (.ref f2)))
    (l2 : K.lookup f2 = some ⟨oc2, od2, .func (PySem.W.fnOf "_law_draw" "_law_draw" (defArgs s_ldraw) (defBody s_ldraw) (defScope s_ldraw) .none kV2 dc2 pm2 an2 cd2 ct2), sl2⟩)
    (c2 : PySem.W.codeIn K cd2 "_law_draw" = true) (k2 : PySem.W.keepIn K (.ref f2) = true)
    (a3 : PySem.W.nsIn K mainGlobals "_law_pick" = some (some (.ref f3)))
    (l3 : K.lookup f3 = some ⟨oc3, od3, .func (PySem.W.fnOf "_law_pick" "_law_pick" (defArgs s_lpick) (defBody s_lpick) (defScope s_lpick) .none kV3 dc3 pm3 an3 cd3 ct3), sl3⟩)
    (c3 : PySem.W.codeIn K cd3 "_law_pick" = true) (k3 : PySem.W.keepIn K (.ref f3) = true)
    (a4 : PySem.W.nsIn K mainGlobals "_law_number" = some (some (.ref f4)))
    (l4 : K.lookup f4 = some ⟨oc4, od4, .func (PySem.W.fnOf "_law_number" "_law_number" (defArgs s_lnumber) (defBody s_lnumber) (defScope s_lnumber) .none kV4 dc4 pm4 an4 cd4 ct4), sl4⟩)
    (c4 : PySem.W.codeIn K cd4 "_law_number" = true) (k4 : PySem.W.keepIn K (.ref f4) = true)
    (a5 : PySem.W.nsIn K mainGlobals "_law_divisor" = some (some (.ref f5)))
    (l5 : K.lookup f5 = some ⟨oc5, od5, .func (PySem.W.fnOf "_law_divisor" "_law_divisor" (defArgs s_ldivisor) (defBody s_ldivisor) (defScope s_ldivisor) .none kV5 dc5 pm5 an5 cd5 ct5), sl5⟩)
    (c5 : PySem.W.codeIn K cd5 "_law_divisor" = true) (k5 : PySem.W.keepIn K (.ref f5) = true)
    (a6 : PySem.W.nsIn K mainGlobals "_law_is" = some (some (.ref f6)))
    (l6 : K.lookup f6 = some ⟨oc6, od6, .func (PySem.W.fnOf "_law_is" "_law_is" (defArgs s_lis) (defBody s_lis) (defScope s_lis) .none kV6 dc6 pm6 an6 cd6 ct6), sl6⟩)
    (c6 : PySem.W.codeIn K cd6 "_law_is" = true) (k6 : PySem.W.keepIn K (.ref f6) = true)
    (a7 : PySem.W.nsIn K mainGlobals "_law_sums_right" = some (some (.ref f7)))
    (l7 : K.lookup f7 = some ⟨oc7, od7, .func (PySem.W.fnOf "_law_sums_right" "_law_sums_right" (defArgs s_lsums) (defBody s_lsums) (defScope s_lsums) .none kV7 dc7 pm7 an7 cd7 ct7), sl7⟩)
    (c7 : PySem.W.codeIn K cd7 "_law_sums_right" = true) (k7 : PySem.W.keepIn K (.ref f7) = true)
    (a8 : PySem.W.nsIn K mainGlobals "_law_whole_right" = some (some (.ref f8)))
    (l8 : K.lookup f8 = some ⟨oc8, od8, .func (PySem.W.fnOf "_law_whole_right" "_law_whole_right" (defArgs s_lwhole) (defBody s_lwhole) (defScope s_lwhole) .none kV8 dc8 pm8 an8 cd8 ct8), sl8⟩)
    (c8 : PySem.W.codeIn K cd8 "_law_whole_right" = true) (k8 : PySem.W.keepIn K (.ref f8) = true)
    (a9 : PySem.W.nsIn K mainGlobals "law" = some (some (.ref f9)))
    (l9 : K.lookup f9 = some ⟨oc9, od9, .func (PySem.W.fnOf "law" "law" (defArgs s_law) (defBody s_law) (defScope s_law) .none kV9 dc9 pm9 an9 cd9 ct9), sl9⟩)
    (c9 : PySem.W.codeIn K cd9 "law" = true) (k9 : PySem.W.keepIn K (.ref f9) = true)
    (A : PySem.W.nsIn K mainGlobals "Rate" = some (some (.ref C)))
    (I20 : PySem.W.findIn K (.ref C) "__init__" = some (some (.ref f20)))
    (J20 : PySem.W.isFn K (.ref f20) = true)
    (l20 : K.lookup f20 = some ⟨oc20, od20, .func (PySem.W.fnOf "__init__" "Rate.__init__" (defArgs s_init) (defBody s_init) (defScope s_init) (.ref T20) kV20 dc20 pm20 an20 cd20 ct20), sl20⟩)
    (c20 : PySem.W.codeIn K cd20 "Rate.__init__" = true) (k20 : PySem.W.keepIn K (.ref f20) = true)
    (D20 : dflI K T20 = true)
    (P21 : PySem.W.findIn K (.ref C) "floor" = some (some (.ref p21)))
    (R21 : PySem.W.recIn K p21 "property" = some (.ref f21 :: r21))
    (S21 : PySem.W.specialIn K (.ref p21) "__get__" = some (some (.builtin "property.__get__"))) (W21 : PySem.W.takesIn K (.ref p21) = some true)
    (l21 : K.lookup f21 = some ⟨oc21, od21, .func (PySem.W.fnOf "floor" "Rate.floor" (defArgs s_floor) (defBody s_floor) (defScope s_floor) .none kV21 dc21 pm21 an21 cd21 ct21), sl21⟩)
    (c21 : PySem.W.codeIn K cd21 "Rate.floor" = true) (k21 : PySem.W.keepIn K (.ref f21) = true)
    (I30 : PySem.W.findIn K (.ref C) "__eq__" = some (some (.ref f30)))
    (J30 : PySem.W.isFn K (.ref f30) = true)
    (l30 : K.lookup f30 = some ⟨oc30, od30, .func (PySem.W.fnOf "__eq__" "Rate.__eq__" (defArgs s_eq) (defBody s_eq) (defScope s_eq) .none kV30 dc30 pm30 an30 cd30 ct30), sl30⟩)
    (c30 : PySem.W.codeIn K cd30 "Rate.__eq__" = true) (k30 : PySem.W.keepIn K (.ref f30) = true)
    (I31 : PySem.W.findIn K (.ref C) "__lt__" = some (some (.ref f31)))
    (J31 : PySem.W.isFn K (.ref f31) = true)
    (l31 : K.lookup f31 = some ⟨oc31, od31, .func (PySem.W.fnOf "__lt__" "Rate.__lt__" (defArgs s_lt) (defBody s_lt) (defScope s_lt) .none kV31 dc31 pm31 an31 cd31 ct31), sl31⟩)
    (c31 : PySem.W.codeIn K cd31 "Rate.__lt__" = true) (k31 : PySem.W.keepIn K (.ref f31) = true)
    (I32 : PySem.W.findIn K (.ref C) "__le__" = some (some (.ref f32)))
    (J32 : PySem.W.isFn K (.ref f32) = true)
    (l32 : K.lookup f32 = some ⟨oc32, od32, .func (PySem.W.fnOf "__le__" "Rate.__le__" (defArgs s_le) (defBody s_le) (defScope s_le) .none kV32 dc32 pm32 an32 cd32 ct32), sl32⟩)
    (c32 : PySem.W.codeIn K cd32 "Rate.__le__" = true) (k32 : PySem.W.keepIn K (.ref f32) = true)
    (I33 : PySem.W.findIn K (.ref C) "__gt__" = some (some (.ref f33)))
    (J33 : PySem.W.isFn K (.ref f33) = true)
    (l33 : K.lookup f33 = some ⟨oc33, od33, .func (PySem.W.fnOf "__gt__" "Rate.__gt__" (defArgs s_gt) (defBody s_gt) (defScope s_gt) .none kV33 dc33 pm33 an33 cd33 ct33), sl33⟩)
    (c33 : PySem.W.codeIn K cd33 "Rate.__gt__" = true) (k33 : PySem.W.keepIn K (.ref f33) = true)
    (I34 : PySem.W.findIn K (.ref C) "__ge__" = some (some (.ref f34)))
    (J34 : PySem.W.isFn K (.ref f34) = true)
    (l34 : K.lookup f34 = some ⟨oc34, od34, .func (PySem.W.fnOf "__ge__" "Rate.__ge__" (defArgs s_ge) (defBody s_ge) (defScope s_ge) .none kV34 dc34 pm34 an34 cd34 ct34), sl34⟩)
    (c34 : PySem.W.codeIn K cd34 "Rate.__ge__" = true) (k34 : PySem.W.keepIn K (.ref f34) = true)
    (I35 : PySem.W.findIn K (.ref C) "__add__" = some (some (.ref f35)))
    (J35 : PySem.W.isFn K (.ref f35) = true)
    (l35 : K.lookup f35 = some ⟨oc35, od35, .func (PySem.W.fnOf "__add__" "Rate.__add__" (defArgs s_add) (defBody s_add) (defScope s_add) .none kV35 dc35 pm35 an35 cd35 ct35), sl35⟩)
    (c35 : PySem.W.codeIn K cd35 "Rate.__add__" = true) (k35 : PySem.W.keepIn K (.ref f35) = true)
    (I36 : PySem.W.findIn K (.ref C) "__radd__" = some (some (.ref f36)))
    (J36 : PySem.W.isFn K (.ref f36) = true)
    (l36 : K.lookup f36 = some ⟨oc36, od36, .func (PySem.W.fnOf "__radd__" "Rate.__radd__" (defArgs s_radd) (defBody s_radd) (defScope s_radd) .none kV36 dc36 pm36 an36 cd36 ct36), sl36⟩)
    (c36 : PySem.W.codeIn K cd36 "Rate.__radd__" = true) (k36 : PySem.W.keepIn K (.ref f36) = true)
    (I37 : PySem.W.findIn K (.ref C) "__neg__" = some (some (.ref f37)))
    (J37 : PySem.W.isFn K (.ref f37) = true)
    (l37 : K.lookup f37 = some ⟨oc37, od37, .func (PySem.W.fnOf "__neg__" "Rate.__neg__" (defArgs s_neg) (defBody s_neg) (defScope s_neg) .none kV37 dc37 pm37 an37 cd37 ct37), sl37⟩)
    (c37 : PySem.W.codeIn K cd37 "Rate.__neg__" = true) (k37 : PySem.W.keepIn K (.ref f37) = true)
    (I38 : PySem.W.findIn K (.ref C) "__sub__" = some (some (.ref f38)))
    (J38 : PySem.W.isFn K (.ref f38) = true)
    (l38 : K.lookup f38 = some ⟨oc38, od38, .func (PySem.W.fnOf "__sub__" "Rate.__sub__" (defArgs s_sub) (defBody s_sub) (defScope s_sub) .none kV38 dc38 pm38 an38 cd38 ct38), sl38⟩)
    (c38 : PySem.W.codeIn K cd38 "Rate.__sub__" = true) (k38 : PySem.W.keepIn K (.ref f38) = true)
    (I39 : PySem.W.findIn K (.ref C) "__rsub__" = some (some (.ref f39)))
    (J39 : PySem.W.isFn K (.ref f39) = true)
    (l39 : K.lookup f39 = some ⟨oc39, od39, .func (PySem.W.fnOf "__rsub__" "Rate.__rsub__" (defArgs s_rsub) (defBody s_rsub) (defScope s_rsub) .none kV39 dc39 pm39 an39 cd39 ct39), sl39⟩)
    (c39 : PySem.W.codeIn K cd39 "Rate.__rsub__" = true) (k39 : PySem.W.keepIn K (.ref f39) = true)
    (I40 : PySem.W.findIn K (.ref C) "__mul__" = some (some (.ref f40)))
    (J40 : PySem.W.isFn K (.ref f40) = true)
    (l40 : K.lookup f40 = some ⟨oc40, od40, .func (PySem.W.fnOf "__mul__" "Rate.__mul__" (defArgs s_mul) (defBody s_mul) (defScope s_mul) .none kV40 dc40 pm40 an40 cd40 ct40), sl40⟩)
    (c40 : PySem.W.codeIn K cd40 "Rate.__mul__" = true) (k40 : PySem.W.keepIn K (.ref f40) = true)
    : ∃ fd : FuncData, (∀ (s : Shared) (u : Value), BindsTo s fd ⟨[u], []⟩ [("_law_script", u)]) ∧ ∀ base : Heap, K.In base → base.Ns mainGlobals mg →
      FnG P w K mg base CX0 8 fa fd ["_law_script"] (spLaw K) := by
  have d0 : OwnD K mg "is_integer" s_isint ["value"] := own_mk X G a0 l0 c0 k0 (fun _ _ _ _ _ _ us hl => match us, hl with | [_], _ => rfl)
  have d1 : OwnD K mg "_law_pen" s_lpen ["_law_script"] := own_mk X G a1 l1 c1 k1 (fun _ _ _ _ _ _ us hl => match us, hl with | [_], _ => rfl)
  have d2 : OwnD K mg "_law_draw" s_ldraw ["_law_pen_here", "_law_many"] := own_mk X G a2 l2 c2 k2 (fun _ _ _ _ _ _ us hl => match us, hl with | [_, _], _ => rfl)
  have d3 : OwnD K mg "_law_pick" s_lpick ["_law_pen_here", "_law_some"] := own_mk X G a3 l3 c3 k3 (fun _ _ _ _ _ _ us hl => match us, hl with | [_, _], _ => rfl)
  have d4 : OwnD K mg "_law_number" s_lnumber ["_law_pen_here"] := own_mk X G a4 l4 c4 k4 (fun _ _ _ _ _ _ us hl => match us, hl with | [_], _ => rfl)
  have d5 : OwnD K mg "_law_divisor" s_ldivisor ["_law_one", "_law_other"] := own_mk X G a5 l5 c5 k5 (fun _ _ _ _ _ _ us hl => match us, hl with | [_, _], _ => rfl)
  have d6 : OwnD K mg "_law_is" s_lis ["_law_rate", "_law_upper", "_law_lower"] := own_mk X G a6 l6 c6 k6 (fun _ _ _ _ _ _ us hl => match us, hl with | [_, _, _], _ => rfl)
  have d7 : OwnD K mg "_law_sums_right" s_lsums ["_law_one", "_law_other", "_law_a", "_law_b", "_law_c", "_law_d"] := own_mk X G a7 l7 c7 k7 (fun _ _ _ _ _ _ us hl => match us, hl with | [_, _, _, _, _, _], _ => rfl)
  have d8 : OwnD K mg "_law_whole_right" s_lwhole ["_law_one", "_law_a", "_law_b", "_law_k"] := own_mk X G a8 l8 c8 k8 (fun _ _ _ _ _ _ us hl => match us, hl with | [_, _, _, _], _ => rfl)
  have d9 : OwnD K mg "law" s_law ["_law_script"] := own_mk X G a9 l9 c9 k9 (fun _ _ _ _ _ _ us hl => match us, hl with | [_], _ => rfl)
  unfold chk at c
  simp only [Bool.and_eq_true, List.all_eq_true, decide_eq_true_eq] at c
  obtain ⟨c1, c2, c3⟩ := c
  have T : Txt K mg := ⟨fun x hx => PySem.W.mg_none_of X G (c1 x hx), d0, d1, d2, d3, d4, d5, d6, d7, d8, d9⟩
  have mC := PySem.W.mg_of X G A
  have eC : gC mg = C := adr_of mC
  rw [A] at c3
  replace c3 : clsB K C = true := c3
  unfold clsB at c3
  simp only [Bool.and_eq_true, List.all_eq_true, decide_eq_true_eq] at c3
  obtain ⟨h0, h1, h2, h3, h4, h5, h6, h7, h8, h9, h10, h11, h12, h13, h14, h15, h16, h17, h18, h19, h20, h21, h22, h23, hX⟩ := c3
  have MI := md1 (x := "__init__") (q := "Rate.__init__") (st := s_init) l20 c20 k20 (dflI_of D20)
  have b3 : ∀ {fd : FuncData} {ps : List Str}, (∃ ds, Vals (List.drop 1 [V.int 1]) ds ∧ Binds K fd ps ds) → Binds K fd ps [] := by
    rintro fd ps ⟨ds, hd, hb⟩
    cases hd
    exact hb
  have b2 := b3 (MI.binds1 (ps := ["self", "upper", "lower"]) 3 1 (by simp) rfl fun _ _ _ _ _ _ _ us its h1 h2 => match us, its, h1, h2 with | [_, _, _], [_], _, _ => ⟨_, rfl, rfl⟩)
  have b1 := MI.binds1 (ps := ["self", "upper", "lower"]) 2 0 (by simp) rfl fun _ _ _ _ _ _ _ us its h1 h2 => match us, its, h1, h2 with | [_, _], [_], _, _ => ⟨_, rfl, rfl⟩
  obtain ⟨its, kb⟩ := MI.kb1 (ps := ["self", "upper", "lower"]) 1 ["lower", "upper"] gKw (by simp)
    (fun {vs ds zs us its ws} r1 _ r3 => by
      cases r1 with
      | nil => exact .nil
      | cons a r1 => cases r1 with
        | cons _ _ => exact .nil
        | nil => cases r3 with
          | nil => exact .nil
          | cons b r3 => cases r3 with
            | nil => exact .nil
            | cons c r3 => cases r3 with
              | nil => exact .cons a (.cons c (.cons b .nil))
              | cons _ _ => exact .nil)
    (fun _ _ _ _ _ _ _ us its ws h1 h2 h3 => match us, its, ws, h1, h2, h3 with | [_], [_], [_, _], _, _, _ => ⟨_, rfl, rfl⟩)
  have TR : TxR K mg := by
    refine ⟨T, by rw [eC]; exact mC, PySem.W.mg_of X G c2, by rw [eC]; exact ⟨h0, h1, h2, h3⟩, by rw [eC]; exact h4, by rw [eC]; exact h5, by rw [eC]; exact ⟨h8, h9, h10, h11, h12⟩,
      by rw [eC]; exact h13, h14, h15, by rw [eC]; exact h16, by rw [eC]; exact h17, by rw [eC]; exact h18, by rw [eC]; exact hX, by rw [eC]; exact h19, ?_, ?_, ?_, ?_, ?_, ?_, ?_, ?_, ?_, ?_, ?_, ?_, by rw [eC]; exact h20, by rw [eC]; exact h21, by rw [eC]; exact h22, by rw [eC]; exact h23, ?_⟩
    all_goals rw [eC]
    · exact ⟨f20, _, .int 1, ⟨h6, I20, J20, h7⟩, MI, b2, b1, rfl, _, kb⟩
    · exact ⟨f30, _, I30, J30, md0 (x := "__eq__") (q := "Rate.__eq__") (st := s_eq) l30 c30 k30,
        (md0 (x := "__eq__") (q := "Rate.__eq__") (st := s_eq) l30 c30 k30).bindsN fun _ _ _ _ _ _ us hl => match us, hl with | [_, _], _ => rfl⟩
    · exact ⟨f31, _, I31, J31, md0 (x := "__lt__") (q := "Rate.__lt__") (st := s_lt) l31 c31 k31,
        (md0 (x := "__lt__") (q := "Rate.__lt__") (st := s_lt) l31 c31 k31).bindsN fun _ _ _ _ _ _ us hl => match us, hl with | [_, _], _ => rfl⟩
    · exact ⟨f32, _, I32, J32, md0 (x := "__le__") (q := "Rate.__le__") (st := s_le) l32 c32 k32,
        (md0 (x := "__le__") (q := "Rate.__le__") (st := s_le) l32 c32 k32).bindsN fun _ _ _ _ _ _ us hl => match us, hl with | [_, _], _ => rfl⟩
    · exact ⟨f33, _, I33, J33, md0 (x := "__gt__") (q := "Rate.__gt__") (st := s_gt) l33 c33 k33,
        (md0 (x := "__gt__") (q := "Rate.__gt__") (st := s_gt) l33 c33 k33).bindsN fun _ _ _ _ _ _ us hl => match us, hl with | [_, _], _ => rfl⟩
    · exact ⟨f34, _, I34, J34, md0 (x := "__ge__") (q := "Rate.__ge__") (st := s_ge) l34 c34 k34,
        (md0 (x := "__ge__") (q := "Rate.__ge__") (st := s_ge) l34 c34 k34).bindsN fun _ _ _ _ _ _ us hl => match us, hl with | [_, _], _ => rfl⟩
    · exact ⟨f35, _, I35, J35, md0 (x := "__add__") (q := "Rate.__add__") (st := s_add) l35 c35 k35,
        (md0 (x := "__add__") (q := "Rate.__add__") (st := s_add) l35 c35 k35).bindsN fun _ _ _ _ _ _ us hl => match us, hl with | [_, _], _ => rfl⟩
    · exact ⟨f36, _, I36, J36, md0 (x := "__radd__") (q := "Rate.__radd__") (st := s_radd) l36 c36 k36,
        (md0 (x := "__radd__") (q := "Rate.__radd__") (st := s_radd) l36 c36 k36).bindsN fun _ _ _ _ _ _ us hl => match us, hl with | [_, _], _ => rfl⟩
    · exact ⟨f37, _, I37, J37, md0 (x := "__neg__") (q := "Rate.__neg__") (st := s_neg) l37 c37 k37,
        (md0 (x := "__neg__") (q := "Rate.__neg__") (st := s_neg) l37 c37 k37).bindsN fun _ _ _ _ _ _ us hl => match us, hl with | [_], _ => rfl⟩
    · exact ⟨f38, _, I38, J38, md0 (x := "__sub__") (q := "Rate.__sub__") (st := s_sub) l38 c38 k38,
        (md0 (x := "__sub__") (q := "Rate.__sub__") (st := s_sub) l38 c38 k38).bindsN fun _ _ _ _ _ _ us hl => match us, hl with | [_, _], _ => rfl⟩
    · exact ⟨f39, _, I39, J39, md0 (x := "__rsub__") (q := "Rate.__rsub__") (st := s_rsub) l39 c39 k39,
        (md0 (x := "__rsub__") (q := "Rate.__rsub__") (st := s_rsub) l39 c39 k39).bindsN fun _ _ _ _ _ _ us hl => match us, hl with | [_, _], _ => rfl⟩
    · exact ⟨f40, _, I40, J40, md0 (x := "__mul__") (q := "Rate.__mul__") (st := s_mul) l40 c40 k40,
        (md0 (x := "__mul__") (q := "Rate.__mul__") (st := s_mul) l40 c40 k40).bindsN fun _ _ _ _ _ _ us hl => match us, hl with | [_, _], _ => rfl⟩
    · exact ⟨p21, f21, _, prop_mk P21 R21 S21 W21, md0 (x := "floor") (q := "Rate.floor") (st := s_floor) l21 c21 k21,
        (md0 (x := "floor") (q := "Rate.floor") (st := s_floor) l21 c21 k21).bindsN fun _ _ _ _ _ _ us hl => match us, hl with | [_], _ => rfl⟩
  have F := fun_mk (st := s_law) l9 c9 k9
  obtain rfl : f9 = fa := Value.ref.inj (Option.some.inj ((PySem.W.mg_of X G a9).symm.trans hmg))
  exact ⟨_, fun s v => .of_eq rfl, fun base _ _ => law_g TR F⟩
end KR

open PySem PySem.W PyProof.Rows L2 in
set_option maxRecDepth 100000 in
set_option maxHeartbeats 0 in
theorem PySem.Challenge.cw_headgap_k31_rates_made_and_reckoned_holds : PySem.Challenge.rw_headgap_k31_rates_made_and_reckoned.Holds := by
  w_on; o_law; k_head; (case hw => w_witness2)
  k_fill
  refine L2.walk_ofG (n := 63) (k := 8) (x := "_law_script") (sp := KR.spLaw)
    (l := PySem.Challenge.rw_headgap_k31_rates_made_and_reckoned) rfl (by decide) rfl ⟨rfl, by decide, by decide⟩ (fun w h Y => PySem.W.kIn_of Y) ?F ?S
  case F =>
    intro w mg fa h KX G hmg
    refine' KR.fin_mk KX G hmg ?c ?a0 ?l0 ?c0 ?k0 ?a1 ?l1 ?c1 ?k1 ?a2 ?l2 ?c2 ?k2 ?a3 ?l3 ?c3 ?k3 ?a4 ?l4 ?c4 ?k4 ?a5 ?l5 ?c5 ?k5 ?a6 ?l6 ?c6 ?k6 ?a7 ?l7 ?c7 ?k7 ?a8 ?l8 ?c8 ?k8 ?a9 ?l9 ?c9 ?k9 ?A ?I20 ?J20 ?l20 ?c20 ?k20 ?D20 ?P21 ?R21 ?S21 ?W21 ?l21 ?c21 ?k21 ?I30 ?J30 ?l30 ?c30 ?k30 ?I31 ?J31 ?l31 ?c31 ?k31 ?I32 ?J32 ?l32 ?c32 ?k32 ?I33 ?J33 ?l33 ?c33 ?k33 ?I34 ?J34 ?l34 ?c34 ?k34 ?I35 ?J35 ?l35 ?c35 ?k35 ?I36 ?J36 ?l36 ?c36 ?k36 ?I37 ?J37 ?l37 ?c37 ?k37 ?I38 ?J38 ?l38 ?c38 ?k38 ?I39 ?J39 ?l39 ?c39 ?k39 ?I40 ?J40 ?l40 ?c40 ?k40
    (case c => kernel_rfl)
    (case a0 => k_is)
    (case l0 => k_is)
    (case c0 => k_is)
    (case k0 => k_is)
    (case a1 => k_is)
    (case l1 => k_is)
    (case c1 => k_is)
    (case k1 => k_is)
    (case a2 => k_is)
    (case l2 => k_is)
    (case c2 => k_is)
    (case k2 => k_is)
    (case a3 => k_is)
    (case l3 => k_is)
    (case c3 => k_is)
    (case k3 => k_is)
    (case a4 => k_is)
    (case l4 => k_is)
    (case c4 => k_is)
    (case k4 => k_is)
    (case a5 => k_is)
    (case l5 => k_is)
    (case c5 => k_is)
    (case k5 => k_is)
    (case a6 => k_is)
    (case l6 => k_is)
    (case c6 => k_is)
    (case k6 => k_is)
    (case a7 => k_is)
    (case l7 => k_is)
    (case c7 => k_is)
    (case k7 => k_is)
    (case a8 => k_is)
    (case l8 => k_is)
    (case c8 => k_is)
    (case k8 => k_is)
    (case a9 => k_is)
    (case l9 => k_is)
    (case c9 => k_is)
    (case k9 => k_is)
    (case A => k_is)
    (case I20 => k_is)
    (case J20 => k_is)
    (case l20 => k_is)
    (case c20 => k_is)
    (case k20 => k_is)
    (case D20 => kernel_rfl)
    (case P21 => k_is)
    (case R21 => k_is)
    (case S21 => k_is)
    (case W21 => k_is)
    (case l21 => k_is)
    (case c21 => k_is)
    (case k21 => k_is)
    (case I30 => k_is)
    (case J30 => k_is)
    (case l30 => k_is)
    (case c30 => k_is)
    (case k30 => k_is)
    (case I31 => k_is)
    (case J31 => k_is)
    (case l31 => k_is)
    (case c31 => k_is)
    (case k31 => k_is)
    (case I32 => k_is)
    (case J32 => k_is)
    (case l32 => k_is)
    (case c32 => k_is)
    (case k32 => k_is)
    (case I33 => k_is)
    (case J33 => k_is)
    (case l33 => k_is)
    (case c33 => k_is)
    (case k33 => k_is)
    (case I34 => k_is)
    (case J34 => k_is)
    (case l34 => k_is)
    (case c34 => k_is)
    (case k34 => k_is)
    (case I35 => k_is)
    (case J35 => k_is)
    (case l35 => k_is)
    (case c35 => k_is)
    (case k35 => k_is)
    (case I36 => k_is)
    (case J36 => k_is)
    (case l36 => k_is)
    (case c36 => k_is)
    (case k36 => k_is)
    (case I37 => k_is)
    (case J37 => k_is)
    (case l37 => k_is)
    (case c37 => k_is)
    (case k37 => k_is)
    (case I38 => k_is)
    (case J38 => k_is)
    (case l38 => k_is)
    (case c38 => k_is)
    (case k38 => k_is)
    (case I39 => k_is)
    (case J39 => k_is)
    (case l39 => k_is)
    (case c39 => k_is)
    (case k39 => k_is)
    (case I40 => k_is)
    (case J40 => k_is)
    (case l40 => k_is)
    (case c40 => k_is)
    (case k40 => k_is)
  case S => exact fun K H a ns hl _ hS => ⟨a, ns, rfl, hS, hl, fun _ => rfl⟩
#print axioms PySem.Challenge.cw_headgap_k31_rates_made_and_reckoned_holds
