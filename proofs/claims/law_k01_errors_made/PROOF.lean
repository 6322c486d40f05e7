import PyProof.Rows.All
import Wide.All
import OpenK.AllK
import Wide.FinOn
import HandS.ExcInit
import HandS.Words
import HandS.List
import HandS.Ends
import HandS.ExcValue
import HandS.ForMost
import KE.KExcIs
import PyProof.ReprRoads
import PySem.Challenge.RW_headgap_k01_errors_made
set_option Elab.async false
set_option linter.all false
set_option maxRecDepth 100000
set_option maxHeartbeats 4000000
/-! own rules 1: exceptions with an own __init__ as values, made with positional values and keywords -/
namespace PySem
namespace KU
open PySem.W PySem.Calls PyProof.Rows PySem.HandSPX
section
variable {M : Model} {prog : Program} {w : World} {A : Around} {E : Value → Shared → Prop} {R : Result → Shared → Prop}
  {h : Heap} {g : Array GenState} {d : Drawn} {t : Nat} {os : OsState}
variable {nm q : Str} {C N : Addr} {bs bm bmB : List Value} {hdct : Bool} {sn : List Str} {sub : List Value} {ab : Bool}
  {col : Option Bool} {dd : Option Addr} {k0 k1 k2 k3 k5 : Option Value} {B newId initId : String}
theorem ck_new (F : ExcBaseFacts B newId initId bmB)
    (hT : ∀ Y : String, bm.contains (.type Y) = bmB.contains (.type Y)) {us : List Value} {kw : List (Str × Value)}
    {Q : Unit → Shared → Prop}
    (hC : h.get? C = some (excClassObj nm q C N bs bm hdct sn sub ab col dd k0 k1 k2 k3 k5 newId))
    (hq : Q () ⟨h, g, d, t, os⟩) :
    wpAny M A (checkBuiltinCall newId ⟨.ref C :: us, kw⟩) Q E ⟨h, g, d, t, os⟩ := by
  have inB : (Value.ref C :: bm).contains (.type B) = true := by
    rw [List.contains_cons, hT, F.hasB, Bool.or_true]
  have ns := F.noStar
  simp only [checkBuiltinCall, F.newKind, F.newSplit, F.newRow]
  repeat (first
    | refine wpAny_loadPart_at hC ?_
    | (refine wpAny_isSubtype_exc hC ?_; rw [inB])
    | refine wpAny_staticBase_exc hC ?_
    | refine wpAny_madeBy_exc hC ?_
    | simp only [bne_self_eq_false, Bool.false_eq_true, if_false]
    | wp_step)
  exact hq
theorem newK (F : ExcBaseFacts B newId initId bmB)
    (hT : ∀ Y : String, bm.contains (.type Y) = bmB.contains (.type Y)) {us : List Value} {kw : List (Str × Value)}
    (hC : h.get? C = some (excClassObj nm q C N bs bm hdct sn sub ab col dd k0 k1 k2 k3 k5 newId))
    (hus : us.length ≤ sizeLine)
    (hq : R (.ok (.ret (.ref (h.objs.size + 1)))) ⟨(h.push (W.kdv_tup us)).push (excO C h.objs.size), g, d, t, os⟩) :
    codeAny (model prog w) A (.builtin newId ⟨.ref C :: us, kw⟩) R ⟨h, g, d, t, os⟩ := by
  have en := F.ends
  have inB : (Value.ref C :: bm).contains (.type B) = true := by
    rw [List.contains_cons, hT, F.hasB, Bool.or_true]
  have inA : (Value.ref C :: bm).contains (.type "AttributeError") = false := by
    rw [List.contains_cons, hT, F.noAttr]; rfl
  have inN : (Value.ref C :: bm).contains (.type "NameError") = false := by
    rw [List.contains_cons, hT, F.noName]; rfl
  refine codeAny_builtinAt F.entry ?_
  unfold Builtin.«BaseException.__new__»
  refine wpAt_bind ?_
  show wpAt _ _ _ (stack >>= _) _ _ _
  refine wpAt_bind (wpAt_stack fun p below => wpAt_of_wpAny ?_)
  wp_walk
  refine wpAt_of_wpAny ?_
  rw [F.owner]
  repeat (first
    | with_reducible refine wpAny_madeHere_exc F.canon hC ?_
    | with_reducible refine wpAny_loadPart_at hC ?_
    | (with_reducible refine wpAny_isSubtype_exc hC ?_
       first | rw [inB] | rw [inA] | rw [inN])
    | wp_step)
  show R _ _
  rw [Heap.size_push]
  exact hq
theorem tcallK (F : ExcBaseFacts B newId initId bmB)
    (hT : ∀ Y : String, bm.contains (.type Y) = bmB.contains (.type Y)) {us : List Value} {kw : List (Str × Value)}
    {fI : Addr} {Q : Fin → Shared → Prop}
    (hC : h.get? C = some (excClassObj nm q C N bs bm hdct sn sub ab col dd k0 k1 k2 k3 k5 newId))
    (hi : W.Looks (model prog w) h (typeLookup (.ref C) "__init__") (some (.ref fI)))
    (hb : ∀ self, W.Looks (model prog w) h (bindSpecial (.ref fI) self) (.ref fI, [self]))
    (hus : us.length ≤ sizeLine)
    (hq : codeAny (model prog w) A (.call (.ref fI) ⟨.ref (h.objs.size + 1) :: us, kw⟩)
      (fun r s' => match r with
        | .ok (.ret v) => v = .none ∧ Q (.done (.ret (.ref (h.objs.size + 1)))) s'
        | .ok _ => False
        | .error e => E e s')
      ⟨(h.push (W.kdv_tup us)).push (excO C h.objs.size), g, d, t, os⟩) :
    wpAny (model prog w) A (Builtin.«type.__call__» ⟨.ref C :: us, kw⟩) Q E ⟨h, g, d, t, os⟩ := by
  repeat (first
    | with_reducible refine wpAny_loadPart_at hC ?_
    | with_reducible refine wpAny_madeBy_exc hC ?_
    | wp_step)
  refine codeAny_call_builtin_code (Code.quiet_builtin _ F.quiet) (ck_new F hT hC ?_)
  refine newK F hT hC hus ?_
  show wpAny _ _ _ _ _ _
  have k : ∀ b o, h.get? b = some o →
      ((h.push (W.kdv_tup us)).push (excO C h.objs.size)).get? b = some o := fun b o e =>
    Heap.get?_push_of_some _ (Heap.get?_push_of_some _ e)
  have hC1 := k _ _ hC
  have hg : ((h.push (W.kdv_tup us)).push (excO C h.objs.size)).get? (h.objs.size + 1) =
    some (excO C h.objs.size) := by heap_get
  have inC : (Value.ref C :: bm).contains (.ref C) = true := by simp
  have i1 := hi.keeps k
  have b1 := (hb (.ref (h.objs.size + 1))).keeps k
  unfold isInstance
  repeat (first
    | with_reducible refine wpAny_loadPart_at hg ?_
    | (with_reducible refine wpAny_isSubtype_exc hC1 ?_
       rw [inC])
    | wp_step)
  show wpAny _ _ (typeLookup (.ref C) _) _ _ _
  refine i1.at ?_
  refine wpAny_holding (wpAny_bind (b1.at ?_))
  refine wpAny_bind (wpAny_call (codeAny_mono hq fun r s' z => ?_))
  rcases r with e | (v | _ | _ | _) <;> first | exact z | exact z.elim | skip
  obtain ⟨rfl, z⟩ := z
  first
    | exact wpAny_pure (wpAny_pure z)
    | (wp_walk; exact z)
theorem callK (F : ExcBaseFacts B newId initId bmB)
    (hT : ∀ Y : String, bm.contains (.type Y) = bmB.contains (.type Y)) {us : List Value} {kw : List (Str × Value)}
    {fI : Addr}
    (hC : h.get? C = some (excClassObj nm q C N bs bm hdct sn sub ab col dd k0 k1 k2 k3 k5 newId))
    (hi : W.Looks (model prog w) h (typeLookup (.ref C) "__init__") (some (.ref fI)))
    (hb : ∀ self, W.Looks (model prog w) h (bindSpecial (.ref fI) self) (.ref fI, [self]))
    (hus : us.length ≤ sizeLine)
    (hq : codeAny (model prog w) (A.under (.builtin "type.__call__" ⟨.ref C :: us, kw⟩))
      (.call (.ref fI) ⟨.ref (h.objs.size + 1) :: us, kw⟩) (W.InitBack (h.objs.size + 1) R)
      ⟨(h.push (W.kdv_tup us)).push (excO C h.objs.size), g, d, t, os⟩) :
    codeAny (model prog w) A (.call (.ref C) ⟨us, kw⟩) R ⟨h, g, d, t, os⟩ := by
  have l1 := tc_lookup
  have l2 := tc_bind (.ref C)
  have ty : (⟨h, g, d, t, os⟩ : Shared).TypeIs (.ref C) "type" := ⟨_, hC, rfl⟩
  refine codeAny_of_tree ?_
  show wpAny _ _ (callAny (.ref C) _) _ _ _
  repeat (any_goals (first
    | assumption
    | with_reducible refine wpAny_loadPart_at hC ?_
    | wp_step))
  refine ⟨rfl, ?_⟩
  refine codeAny_call_builtin_at (Code.quiet_builtin _ (by decide +kernel)) entry_typeCall
    (wpAny_check_type_call_sub hC (tcallK F hT hC hi hb hus ?_))
  refine codeAny_mono hq fun r s' z => ?_
  rcases r with e | (v | _ | _ | _) <;> exact z
end
end KU
end PySem

/-! own rules 2: C(..) of an own exception class as a value, over the layer -/
namespace L2
open PySem PySem.Spec PyProof.Rows
/-- C(.., k = ..) as a value -/
def tMkX (C : Addr) (sp : Sp) (gv : List V → List V) (ta : TA) : TE := fun σ H Q => ta σ H fun vs H1 =>
  vs.length ≤ 1000 ∧ ∀ a, H1 a = none → sp (.ref a :: gv vs) (upd H1 a (exo a C none))
    (fun v H2 => v = .non ∧ Q (.ref a) H2) E0
/-- the class's facts -/
structure XMk (K : PySem.W.Frag) (C fI : Addr) : Prop where
  T : OexC K C
  ini : PySem.W.findIn K (.ref C) "__init__" = some (some (.ref fI))
  ty : PySem.W.typeIn K (.ref fI) = some (.type "function")
section
variable {X : Cx} {C fI : Addr} {k : Nat} {fd : FuncData} {ps : List Str} {sp : Sp}
theorem run_mkx {pins : List (Addr × Obj)} {σ : St} {H : Hp} {s : Shared} {Q : VK} {us ws : List Value} {vs : List V}
    {kw : List (Str × Value)} (M : XMk X.K C fI) (F1 : FnOk X.prog X.w X.K X.mg X.base CX0 k fI fd ps sp)
    (hr : Room (k + 1) X.A) (I : Inv X pins σ H s) (r : Vals vs ws)
    (hb : ∀ (s' : Shared) (a : Addr), X.K.In s'.heap → BindsTo s' fd ⟨.ref a :: us, kw⟩ (ps.zip (.ref a :: ws)))
    (hus : us.length ≤ sizeLine)
    (h : ∀ a, H a = none → sp (.ref a :: vs) (upd H a (exo a C none)) (fun v H2 => v = .non ∧ Q (.ref a) H2) E0) :
    wpAny (model X.prog X.w) X.A (call (.ref C) us kw) (EP X pins σ Q) X.xe s := by
  obtain ⟨nm, q, N, bs, bm, sn, sub, ab, col, dd, k0, k1, k2, k3, k5, hC, hbm⟩ := M.T.cls
  obtain ⟨hp, g, dr, tk, os⟩ := s
  have up : hp.objs.size ≤ hp.objs.size + 1 := Nat.le_succ _
  have hq := h (hp.objs.size + 1) (I.hok.fresh up)
  have kk : ∀ b o, hp.get? b = some o →
      ((hp.push (PySem.W.kdv_tup us)).push (PySem.HandSPX.excO C hp.objs.size)).get? b = some o := fun b o e =>
    Heap.get?_push_of_some _ (Heap.get?_push_of_some _ e)
  have hg : ((hp.push (PySem.W.kdv_tup us)).push (PySem.HandSPX.excO C hp.objs.size)).get? (hp.objs.size + 1) =
    some (PySem.HandSPX.excO C hp.objs.size) := by heap_get
  have I2 : Inv X pins σ (upd H (hp.objs.size + 1) (exo (hp.objs.size + 1) C none))
      ⟨(hp.push (PySem.W.kdv_tup us)).push (PySem.HandSPX.excO C hp.objs.size), g, dr, tk, os⟩ :=
    I.laid (t' := tk) (a := hp.objs.size + 1) (o := exo (hp.objs.size + 1) C none)
      (h' := (hp.push (PySem.W.kdv_tup us)).push (PySem.HandSPX.excO C hp.objs.size)) kk up (exo_ok hg)
  have r2 : Vals (V.ref (hp.objs.size + 1) :: vs) (Value.ref (hp.objs.size + 1) :: ws) := .cons rfl r
  refine wpAny_call (PySem.KU.callK F.excBase_ValueError (fun Y => PySem.HandSPX.refsVE_contains Y bm hbm)
    (I.kIn _ _ hC) (PySem.W.looks_findIn I.kIn M.ini) (fun self => PySem.W.bind_fn I.kIn self M.ty) hus
    (codeAny_mono (F1.run _ X.stack _ _ ⟨Value.ref (hp.objs.size + 1) :: us, kw⟩
      (Value.ref (hp.objs.size + 1) :: ws) _ _ E0 (hr.make C us kw) (I2.env0.make C us kw) (hb _ _ I2.kIn) r2 hq)
      fun rr s' z => ?_))
  cases rr with
  | error er => exact z.elim
  | ok fl =>
    cases fl with
    | ret u =>
      obtain ⟨v, H', I3, rv, ev, q3⟩ := I2.after z
      subst ev
      exact ⟨rv, ⟨V.ref (hp.objs.size + 1), H', I3, rfl, q3⟩⟩
    | next => exact False.elim z
    | brk => exact False.elim z
    | cont => exact False.elim z
/-- C(e, ..) -/
theorem pe_mkx {x : Str} {p pos : Pos} {e : Expr} {es : List Expr} {ta : TA} (M : XMk X.K C fI)
    (F1 : FnOk X.prog X.w X.K X.mg X.base CX0 k fI fd ps sp) (hr : Room (k + 1) X.A) (hg : Gl X x)
    (hm : X.mg x = some (.ref C)) (hb : Binds X.K fd ps []) (ha : PA X (e :: es) ta)
    (hdb : (x == ("__debug__" : Str)) = false := by decide)
    (he : starEach (e :: es) X.env = (false, eval e X.env) :: starEach es X.env := by rfl)
    (hpl : (backTo pos (starEach es X.env)).any (·.1) = false := by rfl) :
    PE X (.Call (.Name x p) (e :: es) [] pos) (tMkX C sp id ta) := by
  refine ⟨fun pins s σ H Q I h => ?_⟩
  refine wpAny_Call_Name_kw (ld_glob I hg hm ?_ hdb)
  refine PySem.W.callWith_K (h₀ := X.base) I.ok.mod.kin M.T.kC
    (thn (ha.run pos pins s σ H _ I h) fun us s1 ⟨vs, H1, I1, r, hl, q⟩ => ⟨I1.kIn, ?_⟩) he hpl
  have hn := F1.len _ _ _ _ (q (s1.heap.objs.size) (I1.hok.fresh (Nat.le_refl _)))
  have hz : us.length ≤ sizeLine := by
    rw [← Paired.length r, sizeLine_eq]
    omega
  refine run_mkx (us := us) M F1 hr I1 r (fun s' a kin => ?_) hz q
  have z := hb s' (Value.ref a :: us) kin (by
    rw [List.append_nil, List.length_cons, ← Paired.length r, ← hn]
    rfl)
  rw [List.append_nil] at z
  exact z
/-- C(k = v, ..) -/
theorem pe_mkk {x : Str} {p pos : Pos} {kws : List Keyword} {tk : TA} {ks : List Str} {gv : List V → List V}
    {g : List Value → List Value} (M : XMk X.K C fI)
    (F1 : FnOk X.prog X.w X.K X.mg X.base CX0 k fI fd ps sp) (hr : Room (k + 1) X.A) (hg : Gl X x)
    (hm : X.mg x = some (.ref C))
    (hb : ∀ (s : Shared) (u : Value) (ws : List Value), X.K.In s.heap → ws.length + 1 = ps.length →
      BindsTo s fd ⟨[u], ks.zip ws⟩ (ps.zip (u :: g ws)))
    (hv : ∀ (vs : List V) (us : List Value), Vals vs us → Vals (gv vs) (g us))
    (hlen : ∀ vs : List V, (gv vs).length = vs.length)
    (hkw : PK X kws tk) (hall : (backToKw pos (keywordEach kws X.env)).all (·.1.isSome) = true := by rfl)
    (hks : (backToKw pos (keywordEach kws X.env)).filterMap (·.1) = ks := by rfl)
    (hdb : (x == ("__debug__" : Str)) = false := by decide)
    (hpl : ((backTo pos (starEach [] X.env)).any (·.1) ||
      (backToKw pos (keywordEach kws X.env)).any (·.1.isNone)) = false := by rfl) :
    PE X (.Call (.Name x p) [] kws pos) (tMkX C sp gv tk) := by
  refine ⟨fun pins s σ H Q I h => ?_⟩
  refine wpAny_Call_Name_kw (ld_glob I hg hm ?_ hdb)
  refine PySem.W.callWith_KW0 (h₀ := X.base) I.ok.mod.kin M.T.kC hall
    (thn (hkw.run pos pins s σ H _ I h) fun us s1 ⟨vs, H1, I1, r, hl, q⟩ => ⟨I1.kIn, ?_⟩) hpl
  rw [hks]
  have hn := F1.len _ _ _ _ (q (s1.heap.objs.size) (I1.hok.fresh (Nat.le_refl _)))
  refine run_mkx (us := []) M F1 hr I1 (hv _ _ r) (fun s' a kin => ?_) (Nat.zero_le _) q
  refine hb s' (Value.ref a) us kin ?_
  rw [← Paired.length r, ← hlen vs, ← hn]
  rfl
end
end L2

/-! own rules 3: an exception as a value: its fields, isinstance; repr of data -/
namespace L2
open PySem PySem.Spec PyProof.Rows
/-- what is asked of an own exception class, so that its objects are read and asked as values -/
structure XCl (K : PySem.W.Frag) (C : Addr) : Prop where
  ga : PySem.W.findIn K (.ref C) "__getattribute__" = some (some (.builtin "BaseException.__getattribute__"))
  gg : PySem.W.findIn K (.ref C) "__getattr__" = some none
  ex : PySem.W.subIn K (.ref C) (.type "BaseException") = some true
  hd : PySem.W.hasDictIn K C = true
  ci : (PySem.W.clsIn K C).isSome = true
  ca : PySem.W.findIn K (.ref C) "__class__" = some (some (.builtin "object.__class__"))
  cn : PySem.W.specialIn K (.builtin "object.__class__") "__get__" = some (some (.builtin "getset_descriptor.__get__"))
  ct : PySem.W.takesIn K (.builtin "object.__class__") = some true
  co : PySem.W.mroIn K C (.type "object") = some true
/-- e.f -/
def tXv (K : PySem.W.Frag) (f : Str) (te : TE) : TE := fun σ H Q => te σ H fun x H1 =>
  ∃ (a C dx : Addr) (fs : List (Str × V)) (v : V), x = .ref a ∧ XCl K C ∧ PySem.W.findIn K (.ref C) f = some none ∧
    H1 a = some (exo a C (some dx)) ∧ H1 dx = some (exd dx fs) ∧ fs.lookup f = some v ∧ Q v H1
theorem inst_exo {P : Program} {w : World} {H : Hp} {h : Heap} {a C dx : Addr} {fs : List (Str × V)}
    (hok : HOk P w H h) (ha : H a = some (exo a C (some dx))) (hd : H dx = some (exd dx fs)) :
    ∃ (oe od : Obj) (mA : Str → Option Value), PySem.W.InstAt h a oe C (some od) ∧ h.get? dx = some od ∧
      (∀ n, PySem.W.lookIn n od = some (mA n)) ∧ ∀ f, RelO (fs.lookup f) (mA f) := by
  obtain ⟨t1, he⟩ := exo_at hok ha
  obtain ⟨mA, hn, r⟩ := exd_at hok hd
  obtain ⟨od, ho, hl⟩ := lookIn_ns hn
  exact ⟨_, od, mA, ⟨he, rfl, rfl, ho⟩, ho, hl, r⟩
theorem inst_exo0 {P : Program} {w : World} {H : Hp} {h : Heap} {a C : Addr}
    (hok : HOk P w H h) (ha : H a = some (exo a C none)) : ∃ oe, PySem.W.InstAt h a oe C none := by
  obtain ⟨t1, he⟩ := exo_at hok ha
  exact ⟨_, ⟨he, rfl, rfl, trivial⟩⟩
section
variable {X : Cx}
theorem pe_xv {e : Expr} {te : TE} {pos : Pos} {f : Str} (he : PE X e te)
    (hb : attributeBase e f X.env (eval e X.env) = eval e X.env := by rfl) :
    PE X (.Attribute e f pos) (tXv X.K f te) := by
  refine ⟨fun pins s σ H Q I h => ?_⟩
  refine attr_of hb (thn (he.run pins s σ H _ I h) fun u s1 hh => ?_)
  obtain ⟨x, H1, I1, rx, a, C, dx, fs, v, ex, T, hno, ha, hd, l, q⟩ := hh
  subst ex
  obtain rfl : u = Value.ref a := rx
  obtain ⟨oe, od, mA, J, _, hl, hr⟩ := inst_exo I1.hok ha hd
  obtain ⟨u, hu, ru⟩ := RelO.some_of (v := v) (o := mA f) (by rw [← l]; exact hr f)
  exact HandSPX.exc_get I1.kIn J T.ga T.gg T.ex (PySem.W.findObj_own T.hd hno rfl (by rw [hl, hu]))
    (handed_of ru) ⟨v, H1, I1.tok _, ru, q⟩
/-- isinstance(e, c): e an exception object of an own class -/
def rIsv (K : PySem.W.Frag) : List V → Hp → VK → Prop := fun xs H Q =>
  ∃ (a C : Addr) (d : Option Addr) (c : V) (cv : Value) (b : Bool), xs = [.ref a, c] ∧ XCl K C ∧
    H a = some (exo a C d) ∧ (∀ dx, d = some dx → ∃ fs, H dx = some (exd dx fs)) ∧
    (∀ u, RelV c u → u = cv) ∧ PySem.W.kitOne K (.ref C) cv = some b ∧ Q (.bl b) H
theorem call_isv : CallR X (.builtin "isinstance") (rIsv X.K) := by
  intro pins s σ H xs us Q I r h
  obtain ⟨a, C, d, c, cv, b, rfl, T, ha, hd, hc, e, q⟩ := h
  obtain ⟨u1, u2, rfl, r1, r2⟩ := vals2 r
  obtain rfl : u1 = Value.ref a := r1
  have e2 := hc _ r2
  subst e2
  have fin : ∀ {oe : Obj} {od : Option Obj}, PySem.W.InstAt s.heap a oe C od →
      wpAny (model X.prog X.w) X.A (call (.builtin "isinstance") [.ref a, u2]) (EP X pins σ Q) X.xe s := fun J =>
    PySem.W.kia_one (PySem.W.kitx_exc T.ci T.ga T.gg T.ex T.ca T.cn T.ct T.co) I.kIn J e (fun z => nomatch z)
      fun tk => ⟨.bl b, H, I.tok tk, rfl, q⟩
  cases d with
  | none =>
    obtain ⟨oe, J⟩ := inst_exo0 I.hok ha
    exact fin J
  | some dx =>
    obtain ⟨fs, hx⟩ := hd dx rfl
    obtain ⟨oe, od, _, J, _⟩ := inst_exo I.hok ha hx
    exact fin J
end
end L2

/-! own rules 4: defs that ask for repr: the promise where no repr is under way -/
namespace L2
open PySem PySem.Spec PyProof.Rows
/-- as FnOk, for callers that have no repr under way -/
structure FnG (P : Program) (w : World) (K : PySem.W.Frag) (mg : Str → Option Value) (base : Heap) (CX : CXT)
    (k : Nat) (f : Addr) (fd : FuncData) (ps : List Str) (sp : Sp) : Prop where
  len : ∀ vs H Q E, sp vs H Q E → vs.length = ps.length
  run : ∀ (A : Around) (outer : List Env) (s : Shared) (H : Hp) (args : Args) (us : List Value) (vs : List V)
    (Q : VK) (E : XK), A.guards = some [] → Room k A → Env0 P w K mg base A outer s H →
    BindsTo s fd args (ps.zip us) → Vals vs us → sp vs H Q E →
    codeAny (model P w) A (.call (.ref f) args) (CR CX outer P w H s Q E) s
section
variable {P : Program} {w : World} {K : PySem.W.Frag} {mg : Str → Option Value} {base : Heap} {CX : CXT} {k : Nat}
  {f : Addr} {fd : FuncData} {ps : List Str} {sp : Sp}
theorem FnOk.g (F : FnOk P w K mg base CX k f fd ps sp) : FnG P w K mg base CX k f fd ps sp :=
  ⟨F.len, fun A outer s H args us vs Q E _ hr he hb hv hs => F.run A outer s H args us vs Q E hr he hb hv hs⟩
theorem FnG.mono {j : Nat} (F : FnG P w K mg base CX j f fd ps sp) (h : j ≤ k) : FnG P w K mg base CX k f fd ps sp :=
  ⟨F.len, fun A outer s H args us vs Q E hg hr => F.run A outer s H args us vs Q E hg (hr.mono h)⟩
/-- the rule for a def, guards known -/
theorem Fun.okG {x qual : Str} {st : Stmt} {N : List Str} (F : Fun K x qual st f fd) (S : FnScope N ps (defScope st))
    (len : ∀ vs H Q E, sp vs H Q E → vs.length = ps.length)
    (hbody : ∀ (cdv : Value) (A : Around) (outer : List Env) (s : Shared) (H : Hp) (vs : List V) (Q : VK) (E : XK),
      (A.deeper (envOfC qual (defScope st) s.heap.objs.size f cdv)).guards = some [] →
      Room k (A.deeper (envOfC qual (defScope st) s.heap.objs.size f cdv)) → sp vs H Q E →
      ∃ t, PSs (cxOf CX0 P w K mg base N qual (defScope st) f cdv A outer s H E).nox (defBody st) t ∧
        t { nx := fun _ H' => Q .non H', rt := Q } (start N vs) H) :
    FnG P w K mg base CX0 (k + 1) f fd ps sp := by
  obtain ⟨oc, od, kV, doc, pm, an, cdv, ct, osl, rfl, lk, hcd⟩ := F.ex
  refine ⟨len, fun A outer s H args us vs Q E hg hr e0 hb r hsp => ?_⟩
  have hl := len _ _ _ _ hsp
  have KX : K.In s.heap := e0.mod.kin.keeps fun b o e => (e0.bs b o e).1
  have lim : s.heap.NoLimit := e0.mod.nolimit.keeps fun b o e => (e0.bs b o e).1
  have kinds : ∀ y ∈ ps.zip us, (defScope st).names.lookup y.1 = some .local ∨
      ((defScope st).names.lookup y.1 = some .cell ∧
        ((cellsFrom (s.heap.objs.size + 1) (defScope st).names []).lookup y.1).isSome = true) := by
    rintro ⟨n, v⟩ hy
    rcases S.par n (List.of_mem_zip hy).1 with q | q
    · exact .inl q
    · exact .inr ⟨q, PySem.W.cellsFrom_some _ _ _ (.inl q)⟩
  refine codeAny_call_function hr.depth (KX _ _ lk) rfl S.co S.gen rfl (PySem.W.codeRec_of KX hcd) (hb _ _ _ _ ?_)
  refine wpAny_newFunctionEnv_cells S.kind kinds fun env he s1 x => ?_
  subst he
  refine ⟨lim.keeps x.toInCall.keep, codeAny_func ?_⟩
  have hg' : (A.deeper (envOfC qual (defScope st) s.heap.objs.size f cdv)).guards = some [] := by
    first
      | exact hg
      | simpa [Around.deeper] using hg
  obtain ⟨t, ht0, hq⟩ := hbody cdv A outer s H vs Q E hg' (hr.deeper _) hsp
  have ht := ht0.nox
  have I : Inv (cxOf CX0 P w K mg base N qual (defScope st) f cdv A outer s H E) [] (start N vs) H s1 :=
    inv_start S hr.hd e0 hl r x
  refine wpAny_mono (ht.run [] s1 (start N vs) H _ I hq) (fun fl s' hs => ?_) fun e s' hs => hs
  have fin : ∀ {σ' : St} {H' : Hp} {v : V} {u : Value},
      Inv (cxOf CX0 P w K mg base N qual (defScope st) f cdv A outer s H E) [] σ' H' s' → RelV v u → Q v H' →
      CE outer P w H s Q u s' := fun J rv q => ⟨_, _, J.os, J.bare, J.base, J.hok, rv, q⟩
  cases fl with
  | ret u =>
    obtain ⟨v, σ', H', J, rv, q⟩ := hs
    exact fin J rv q
  | next =>
    obtain ⟨σ', H', J, q⟩ := hs
    exact fin (v := V.non) (u := Value.none) J rfl q
  | brk =>
    obtain ⟨_, _, _, q⟩ := hs
    exact False.elim q
  | cont =>
    obtain ⟨_, _, _, q⟩ := hs
    exact False.elim q
end
section
variable {X : Cx} {CX : CXT} {k : Nat} {f : Addr} {fd : FuncData} {ps : List Str} {sp : Sp} {dvs : List V}
  {ds : List Value} {E : XK} {x : Str} {p pos : Pos} {e : Expr} {es : List Expr} {t : TA}
theorem run_fnG {pins : List (Addr × Obj)} {σ : St} {H : Hp} {s : Shared} {Q : VK} {us : List Value} {vs : List V}
    (F : FnG X.prog X.w X.K X.mg X.base CX k f fd ps sp) (hA : X.A.guards = some []) (hr : Room k X.A)
    (hb : Binds X.K fd ps ds) (hd : Vals dvs ds) (hx : Passes CX X E) (I : Inv X pins σ H s) (r : Vals vs us)
    (h : sp (vs ++ dvs) H Q E) : wpAny (model X.prog X.w) X.A (call (.ref f) us) (EP X pins σ Q) X.xe s := by
  have r2 : Vals (vs ++ dvs) (us ++ ds) := r.append hd
  have hl : (us ++ ds).length = ps.length := by
    rw [← r2.length]
    exact F.len _ _ _ _ h
  refine wpAny_call (codeAny_mono (F.run X.A X.stack s H ⟨us, []⟩ (us ++ ds) (vs ++ dvs) Q E hA hr I.env0
    (hb s us I.kIn hl) r2 h) fun rr s' z => ?_)
  cases rr with
  | error e => exact hx pins σ H s e s' I z
  | ok fl =>
    cases fl with
    | ret u => exact I.after z
    | next => exact False.elim z
    | brk => exact False.elim z
    | cont => exact False.elim z
theorem pe_callG (F : FnG X.prog X.w X.K X.mg X.base CX k f fd ps sp) (hA : X.A.guards = some []) (hr : Room k X.A)
    (hg : Gl X x) (hm : X.mg x = some (.ref f)) (hk : PySem.W.keepIn X.K (.ref f) = true) (hb : Binds X.K fd ps ds)
    (hd : Vals dvs ds) (hx : Passes CX X E) (ha : PA X (e :: es) t)
    (hdb : (x == ("__debug__" : Str)) = false := by decide)
    (he : starEach (e :: es) X.env = (false, eval e X.env) :: starEach es X.env := by rfl)
    (hpl : (backTo pos (starEach es X.env)).any (·.1) = false := by rfl) :
    PE X (.Call (.Name x p) (e :: es) [] pos) (tCall sp dvs E t) := by
  refine ⟨fun pins s σ H Q I h => ?_⟩
  refine wpAny_Call_Name_kw (ld_glob I hg hm ?_ hdb)
  refine PySem.W.callWith_K (h₀ := X.base) I.ok.mod.kin hk
    (thn (ha.run pos pins s σ H _ I h) fun us s1 ⟨vs, H1, I1, r, q⟩ => ⟨I1.kIn, ?_⟩) he hpl
  exact run_fnG F hA hr hb hd hx I1 r q
/-- repr(x): x data -/
def rShow (K : PySem.W.Frag) : List V → Hp → VK → Prop := fun xs H Q =>
  ∃ (a : Addr) (d : PyData), xs = [.ref a] ∧ Dp K H (.ref a) d ∧ d.showable = true ∧ d.hasDict = false ∧
    d.depth ≤ 60 ∧ d.shown.length ≤ sizeLine ∧ Q (.str d.shown) H
theorem call_rep (hA : X.A.guards = some []) (hu : X.A.units + 64 < cLine) :
    CallR X (.builtin "repr") (rShow X.K) := by
  intro pins s σ H xs us Q I r h
  obtain ⟨a, d, rfl, hd, hs, hn, hdp, hz, q⟩ := h
  obtain ⟨u, rfl, ru⟩ := vals1 r
  obtain rfl : u = Value.ref a := ru
  obtain ⟨as, rd⟩ := Dp.reads I d _ _ hd rfl
  exact repr_of_reads' rd hs (fun z => by rw [hn] at z; cases z) hA (by omega) (fun _ _ e => e)
    (fun h' u tk keep => ⟨.str d.shown, H, I.kept keep, ⟨u, rfl⟩, q⟩) hz
end
/-- the law's call, from such a promise -/
theorem law_callG {P : Program} {w : World} {K : PySem.W.Frag} {mg mb : Str → Option Value} {k : Nat} {fa a : Addr}
    {fd : FuncData} {x : Str} {sp : Sp} {s1 : Shared} {vs : List Value} {ns : List Int}
    (KX : K.In s1.heap) (hns : s1.heap.Ns mainGlobals mg) (hb : s1.heap.Ns builtinsNs mb)
    (hbb : ∀ y : Str, y ≠ "__name__" → mb y = bootBuiltins y) (hlim : s1.heap.NoLimit) (hg : s1.gens = #[])
    (ha : s1.heap.get? a = some { cls := .type "list", data := .seq vs.toArray }) (hi : IntsAre vs ns)
    (hl : ns.length ≤ sizeLine) (hr : Room k callerA)
    (F : ∀ base : Heap, K.In base → base.Ns mainGlobals mg → FnG P w K mg base CX0 k fa fd [x] sp)
    (hbind : ∀ (s : Shared) (u : Value), BindsTo s fd ⟨[u], []⟩ [(x, u)])
    (hsp : ∀ H : Hp, Only H → SqL K H a (ns.map V.int) → sp [.ref a] H (fun v _ => v = .bl true) E0) :
    codeAny (model P w) callerA (.call (.ref fa) ⟨[.ref a], []⟩)
      (fun r s' => r = .ok (.ret (.bool true)) ∧ OldK s1.heap s'.heap ∧ s'.os = s1.os ∧ AllBare s'.gens) s1 := by
  have rv := vals_ints hi
  have lenV := hi.length
  have core : ∀ H : Hp, Only H → SqL K H a (ns.map V.int) → HOk P w H s1.heap → (∀ b, H b ≠ none → b = a) →
      (H a ≠ none → K.lookup a = none) → codeAny (model P w) callerA (.call (.ref fa) ⟨[.ref a], []⟩)
        (fun r s' => r = .ok (.ret (.bool true)) ∧ OldK s1.heap s'.heap ∧ s'.os = s1.os ∧ AllBare s'.gens) s1 := by
    intro H hO hS hok hA hK
    have atA : ∀ {b : Addr} {u : HO}, H b = some u → b = a := fun {b u} q => hA b (by rw [q]; simp)
    have noA : ∀ {b : Addr} {o : Obj} {es : Array DictEntry} {ep : Nat}, s1.heap.get? b = some o →
        o.data = .dict es ep → H b = none := by
      intro b o es ep e d
      cases q : H b with
      | none => rfl
      | some u =>
        obtain rfl := atA q
        rw [ha] at e
        cases e
        have d' : Data.seq vs.toArray _ = Data.dict es ep := d
        cases d'
    have nsK : ∀ {b : Addr} {m : Str → Option Value}, s1.heap.Ns b m → (hidT s1.heap H).Ns b m := by
      rintro b m ⟨o, es, ep, e, d, r⟩
      exact ⟨o, es, ep, hidT_get e (noA e d), d, r⟩
    have hKb : K.In (hidT s1.heap H) := by
      intro b o e
      refine hidT_get (KX b o e) ?_
      cases q : H b with
      | none => rfl
      | some u =>
        obtain rfl := atA q
        rw [hK (by rw [q]; simp)] at e
        cases e
    have lim' : (hidT s1.heap H).NoLimit := by
      obtain ⟨mc, h1, h2⟩ := hlim
      exact ⟨mc, nsK h1, h2⟩
    have hM : Mod K mg (hidT s1.heap H) := ⟨hKb, nsK hns, ⟨mb, nsK hb, hbb⟩, lim'⟩
    have e0 : Env0 P w K mg (hidT s1.heap H) callerA [] s1 H :=
      ⟨rfl, hM, fun b o e => of_hidT e, Nat.le_of_eq (hidT_size _ _), trivial,
        fun b hb => absurd (show b ∈ ([] : List Addr) from hb) (by simp), hok, .of_eq hg⟩
    refine codeAny_mono ((F _ hKb (nsK hns)).run callerA [] s1 H ⟨[.ref a], []⟩ [.ref a] [.ref a] _ _ rfl hr e0
      (hbind s1 (.ref a)) (.cons rfl .nil) (hsp H hO hS)) fun r s' h => ?_
    cases r with
    | error e => exact h.elim
    | ok fl =>
      cases fl with
      | next => exact False.elim h
      | brk => exact False.elim h
      | cont => exact False.elim h
      | ret u =>
        obtain ⟨v, H', os, bare, un, hok', r', q⟩ := h
        have q' : v = .bl true := q
        subst q'
        obtain rfl : u = Value.bool true := r'
        refine ⟨rfl, OldK.of_keep fun b o e => ?_, os, bare⟩
        have nil : b ∉ frs [] := fun z => absurd (show b ∈ ([] : List Addr) from z) (by simp)
        cases q : H b with
        | none => exact un.keep b o e q nil (by simp)
        | some u =>
          rcases hO b with z | ⟨ob, xs, z⟩
          · rw [q] at z
            cases z
          · have z2 := un.frzs b ob _ z
            obtain ⟨e1, _⟩ := hok b _ z
            obtain ⟨e2, _⟩ := hok' b _ z2
            rw [e] at e1
            cases e1
            exact e2
  cases hk : K.lookup a with
  | some o =>
    have e := KX a o hk
    rw [ha] at e
    cases e
    have ok0 : HOk P w (fun _ => none) s1.heap := fun b u z => by
      have z' : (none : Option HO) = some u := z
      cases z'
    refine core (fun _ => none) (fun _ => .inl rfl) (.inr ⟨_, vs.toArray, _, hk, rfl, rfl, rfl, ?_, ?_⟩) ok0
      (fun b z => absurd rfl z) fun z => absurd rfl z
    · rw [List.size_toArray, lenV]
      exact hl
    · simpa using rv
  | none =>
    let o1 : Obj := { cls := .type "list", data := .seq vs.toArray }
    refine core (fun b => if b = a then some (.frz o1 (.lst (ns.map V.int))) else none) (fun b => ?_)
      (.inl (.inr ⟨o1, if_pos rfl⟩)) (fun b u z => ?_) (fun b z => ?_) fun _ => hk
    · by_cases hb : b = a
      · exact .inr ⟨_, _, if_pos hb⟩
      · exact .inl (if_neg hb)
    · by_cases hb : b = a
      · have z' := (if_pos hb).symm.trans z
        cases z'
        subst hb
        exact ⟨ha, by rw [List.length_map]; exact hl, vs, _, rv, ha⟩
      · have z' := (if_neg hb).symm.trans z
        cases z'
    · by_cases hb : b = a
      · exact hb
      · exact absurd (if_neg hb) z
theorem walk_ofG {l : PySem.W.OpenLaw} {n k : Nat} {q : Program} {loose : List Str}
    {XP : (Str → Option Value) → Heap → Prop} {YP : World → Heap → Prop} {d : DefRec} {K : Params → PySem.W.Frag}
    {sp : PySem.W.Frag → Sp} {x : Str} (hn : l.most = some n) (hn2 : n ≤ sizeLine) (hdf : d.params.defaults = [])
    (hr : Room k callerA) (hY : ∀ (w : World) (h : Heap), YP w h → (K w.params).In h)
    (F : ∀ (w : World) (mg : Str → Option Value) (fa : Addr) (h : Heap), (K w.params).In h → h.Ns mainGlobals mg →
      mg d.name = some (.ref fa) → ∃ fd : FuncData, (∀ (s : Shared) (u : Value), BindsTo s fd ⟨[u], []⟩ [(x, u)]) ∧
        ∀ base : Heap, (K w.params).In base → base.Ns mainGlobals mg →
          FnG l.prog w (K w.params) mg base CX0 k fa fd [x] (sp (K w.params)))
    (hsp : ∀ (K : PySem.W.Frag) (H : Hp) (a : Addr) (ns : List Int), ns.length ≤ n → Only H →
      SqL K H a (ns.map V.int) → sp K [.ref a] H (fun v _ => v = .bl true) E0) :
    PySem.W.WalkO q loose XP YP l.row.toRowW d [] (fun f vs => PySem.call f vs) := by
  refine Att.attach_call hn hdf fun w s0 s1 mg mb fa o pm cd doc a vs ns G Y ho hd hcd hmg hobj hints hlen hg => ?_
  have KX := hY w _ Y
  obtain ⟨fd, hb, hF⟩ := F w mg fa _ KX G.T.g hmg
  exact law_callG KX G.T.g G.T.b G.T.builtins G.T.nolimit hg hobj hints (Nat.le_trans hlen hn2) hr hF hb
    fun H hO hS => hsp (K w.params) H a ns hlen hO hS
end L2

/-! own rules 5: defs by name -/
namespace L2
open PySem PySem.Spec PyProof.Rows
/-- the address of what a module's name holds -/
def adr (mg : Str → Option Value) (x : Str) : Addr := match mg x with
  | some (.ref a) => a
  | _ => 0
theorem adr_of {mg : Str → Option Value} {x : Str} {a : Addr} (h : mg x = some (.ref a)) : adr mg x = a := by
  unfold adr
  rw [h]
/-- a def of the top, by its name -/
def OwnD (K : PySem.W.Frag) (mg : Str → Option Value) (x : Str) (st : Stmt) (ps : List Str) : Prop :=
  ∃ f fd, mg x = some (.ref f) ∧ Fun K x x st f fd ∧ Binds K fd ps []
/-- what a def of the top keeps -/
def Kp (P : Program) (w : World) (K : PySem.W.Frag) (mg : Str → Option Value) (base : Heap) (k : Nat) (x : Str)
    (ps : List Str) (sp : Sp) : Prop :=
  ∃ f fd, mg x = some (.ref f) ∧ PySem.W.keepIn K (.ref f) = true ∧ Binds K fd ps [] ∧
    FnG P w K mg base CX0 k f fd ps sp
section
variable {P : Program} {w : World} {K : PySem.W.Frag} {mg : Str → Option Value} {base : Heap}
theorem OwnD.ok {x : Str} {st : Stmt} {N ps : List Str} {k : Nat} {sp : Sp} (O : OwnD K mg x st ps)
    (S : FnScope N ps (defScope st)) (len : ∀ vs H Q E, sp vs H Q E → vs.length = ps.length)
    (hbody : ∀ (f : Addr) (cdv : Value) (A : Around) (outer : List Env) (s : Shared) (H : Hp) (vs : List V) (Q : VK)
      (E : XK), (A.deeper (envOfC x (defScope st) s.heap.objs.size f cdv)).guards = some [] →
      Room k (A.deeper (envOfC x (defScope st) s.heap.objs.size f cdv)) → sp vs H Q E →
      ∃ t, PSs (cxOf CX0 P w K mg base N x (defScope st) f cdv A outer s H E).nox (defBody st) t ∧
        t { nx := fun _ H' => Q .non H', rt := Q } (start N vs) H) :
    Kp P w K mg base (k + 1) x ps sp := by
  obtain ⟨f, fd, hm, F, b⟩ := O
  exact ⟨f, fd, hm, F.kp, b, F.okG S len fun cdv A outer s H vs Q E hg hr h => hbody f cdv A outer s H vs Q E hg hr h⟩
theorem own_mk {h : Heap} {x : Str} {st : Stmt} {ps : List Str} {f : Addr} {od an : Option Addr}
    {sl : Array (Option Value)} {oc kV dc pm cd ct : Value} (X : K.In h) (G : h.Ns mainGlobals mg)
    (a : PySem.W.nsIn K mainGlobals x = some (some (.ref f)))
    (l : K.lookup f = some ⟨oc, od, .func (PySem.W.fnOf x x (defArgs st) (defBody st) (defScope st) .none kV dc pm an cd ct), sl⟩)
    (c : PySem.W.codeIn K cd x = true) (k : PySem.W.keepIn K (.ref f) = true)
    (b : ∀ (kV doc pm : Value) (an : Option Addr) (cdv ct : Value) (us : List Value), us.length = ps.length →
      bindArgs (PySem.W.fnOf x x (defArgs st) (defBody st) (defScope st) .none kV doc pm an cdv ct) ⟨us, []⟩ =
        pure (ps.zip us)) : OwnD K mg x st ps :=
  have F := fun_mk (st := st) l c k
  ⟨f, _, PySem.W.mg_of X G a, F, F.binds b⟩
end
section
variable {X : Cx} {k j : Nat} {ps : List Str} {sp : Sp} {x : Str} {p pos : Pos} {e : Expr} {es : List Expr} {t : TA}
/-- f(e, ..) by what f keeps -/
theorem pe_kp (F : Kp X.prog X.w X.K X.mg X.base k x ps sp) (hA : X.A.guards = some []) (hr : Room j X.A)
    (hg : Gl X x) (ha : PA X (e :: es) t) (hj : k ≤ j := by decide)
    (hdb : (x == ("__debug__" : Str)) = false := by decide)
    (he : starEach (e :: es) X.env = (false, eval e X.env) :: starEach es X.env := by rfl)
    (hpl : (backTo pos (starEach es X.env)).any (·.1) = false := by rfl)
    (hx : Passes CX0 X E0 := by exact pass0) :
    PE X (.Call (.Name x p) (e :: es) [] pos) (tCall sp [] E0 t) := by
  obtain ⟨f, fd, hm, hk, hb, G⟩ := F
  exact pe_callG G hA (hr.mono hj) hg hm hk hb .nil hx ha hdb he hpl
end
end L2

/-! own rules 6: weaker readings, heaps -/
namespace L2
open PySem PySem.Spec PyProof.Rows
section
variable {X : Cx}
theorem fmod_bd {i j : Int} (h : 0 < j) : 0 ≤ i.fmod j ∧ i.fmod j < j := by
  rw [Int.fmod_eq_emod_of_nonneg _ (by omega)]
  exact ⟨Int.emod_nonneg _ (by omega), Int.emod_lt_of_pos _ h⟩
/-- a % b, some number below b -/
def rModW : R2 := fun x y H Q => ∃ i j, x = .int i ∧ y = .int j ∧ 0 < j ∧ ∀ r, 0 ≤ r → r < j → Q (.int r) H
theorem op_modW : OpR X (binaryOp .Mod) rModW := by
  intro pins s σ H x y v u Q I rx ry h
  obtain ⟨i, j, ex, ey, hj, h⟩ := h
  exact op_modN pins s σ H x y v u Q I rx ry ⟨i, j, ex, ey, by omega, h _ (fmod_bd hj).1 (fmod_bd hj).2⟩
/-- a // b, the quotient with its rest -/
def rDivW : R2 := fun x y H Q => ∃ i j, x = .int i ∧ y = .int j ∧ 0 < j ∧ j < 1073741824 ∧
  ∀ q r, i = j * q + r → 0 ≤ r → r < j → Q (.int q) H
theorem op_divW : OpR X (binaryOp .FloorDiv) rDivW := by
  intro pins s σ H x y v u Q I rx ry h
  obtain ⟨i, j, ex, ey, hj, h2, h⟩ := h
  have b := fmod_bd (i := i) hj
  refine op_fdivN pins s σ H x y v u Q I rx ry ⟨i, j, ex, ey, ⟨by omega, by omega⟩, h _ _ ?_ b.1 b.2⟩
  have e := Int.fmod_add_mul_fdiv i j
  omega
/-- a ** b, some number -/
def rPowW : R2 := fun x y H Q => ∃ i j, x = .int i ∧ y = .int j ∧ 0 ≤ j ∧ j ≤ 1000000 ∧ i.natAbs < 2 ^ 64 ∧
  ∀ z, Q (.int z) H
theorem op_powW : OpR X (binaryOp .Pow) rPowW := by
  intro pins s σ H x y v u Q I rx ry h
  obtain ⟨i, j, ex, ey, h1, h2, h3, h⟩ := h
  exact op_pow pins s σ H x y v u Q I rx ry ⟨i, j, ex, ey, ⟨h1, h2, h3⟩, h _⟩
/-- a * b, as a letter with its equation -/
def rMulW : R2 := fun x y H Q => ∃ i j, x = .int i ∧ y = .int j ∧ ((-(2 ^ 64) < i ∧ i < 2 ^ 64) ∨ (-(2 ^ 64) < j ∧ j < 2 ^ 64)) ∧
  ∀ z, z = i * j → Q (.int z) H
theorem op_mulW' : OpR X (binaryOp .Mult) rMulW := by
  intro pins s σ H x y v u Q I rx ry h
  obtain ⟨i, j, ex, ey, h1, h⟩ := h
  exact op_mul pins s σ H x y v u Q I rx ry ⟨i, j, ex, ey, h1, h _ rfl⟩
/-- int(n), n an int -/
theorem call_intI : CallR X (.type "int") (fun xs H Q => ∃ i, xs = [.int i] ∧ Q (.int i) H) := by
  intro pins s σ H xs us Q I r h
  obtain ⟨i, e, h⟩ := h
  exact call_int1 pins s σ H xs us Q I r (.inl ⟨i, e, h⟩)
/-- int(b), b a bool: 0 or 1 -/
theorem call_intB : CallR X (.type "int") (fun xs H Q => ∃ b, xs = [.bl b] ∧ ∀ i, 0 ≤ i → i ≤ 1 → Q (.int i) H) := by
  intro pins s σ H xs us Q I r h
  obtain ⟨b, e, h⟩ := h
  refine call_int1 pins s σ H xs us Q I r (.inr ⟨b, e, h _ ?_ ?_⟩)
  · cases b <;> decide
  · cases b <;> decide
end
theorem upd_new {H : Hp} {p q : Addr} {o u : HO} (hn : H p = none) (h : H q = some o) : upd H p u q = some o :=
  (upd_ne (ne_of_none h hn)).trans h
theorem upd_oth {H : Hp} {p q : Addr} {o u : HO} (hn : q ≠ p) (h : H q = some o) : upd H p u q = some o :=
  (upd_ne hn).trans h
theorem sq_new {K : PySem.W.Frag} {H : Hp} {p c : Addr} {u : HO} {xs : List V} (hn : H p = none) (h : SqL K H c xs) :
    SqL K (upd H p u) c xs := by
  rcases h with (h | ⟨o, h⟩) | h
  · exact .inl (.inl (upd_new hn h))
  · exact .inl (.inr ⟨o, upd_new hn h⟩)
  · exact .inr h
theorem sq_oth {K : PySem.W.Frag} {H : Hp} {p c : Addr} {u : HO} {xs : List V} (hn : c ≠ p) (h : SqL K H c xs) :
    SqL K (upd H p u) c xs := by
  rcases h with (h | ⟨o, h⟩) | h
  · exact .inl (.inl (upd_oth hn h))
  · exact .inl (.inr ⟨o, upd_oth hn h⟩)
  · exact .inr h
theorem Same.new {H : Hp} {p : Addr} {u : HO} (hn : H p = none) : Same H (upd H p u) := fun b o e => upd_new hn e
theorem at_map {ns : List Int} {r : Int} (h0 : 0 ≤ r) (h1 : r < (ns.length : Int)) :
    ∃ x, atI (ns.map V.int) r = some (.int x) := by
  have hl : r.toNat < ns.length := by omega
  refine ⟨ns[r.toNat], ?_⟩
  unfold atI ixN
  rw [List.length_map, if_pos h0, if_pos h1]
  simp [List.getElem?_eq_getElem hl]
theorem at_in {α : Type} {xs : List α} {r : Int} (h0 : 0 ≤ r) (h1 : r < (xs.length : Int)) :
    ∃ x, atI xs r = some x ∧ x ∈ xs := by
  have hl : r.toNat < xs.length := by omega
  refine ⟨xs[r.toNat], ?_, List.getElem_mem _⟩
  unfold atI ixN
  rw [if_pos h0, if_pos h1]
  simp [List.getElem?_eq_getElem hl]
/-- data of a list of ints -/
theorem dp_ints {K : PySem.W.Frag} {H : Hp} : ∀ ns : List Int, DpAll K H (ns.map V.int) (ns.map PyData.int)
  | [] => .nil
  | n :: ns => .cons (.int n) (dp_ints ns)
/-- a statement and what follows it, met at a word -/
def tMid (t u : TS) : TS := fun D σ H => ∃ W : St → Hp → Prop, t { D with nx := W } σ H ∧ ∀ σ1 H1, W σ1 H1 → u D σ1 H1
theorem pss_mid {X : Cx} {st : Stmt} {rest : List Stmt} {t u : TS} (a : PS X st t) (b : PSs X rest u) :
    PSs X (st :: rest) (tMid t u) := by
  constructor
  intro pins s σ H D I h
  obtain ⟨W, hw, hu⟩ := h
  refine wpAny_execs_cons (thn (a.run pins s σ H { D with nx := W } I hw) fun f s1 z => ?_)
  cases f with
  | next =>
    obtain ⟨σ1, H1, I1, z⟩ := z
    exact b.run pins s1 σ1 H1 D I1 (hu σ1 H1 z)
  | ret v => exact z
  | brk => exact z
  | cont => exact z
theorem len_lst {K : PySem.W.Frag} {H : Hp} {c : Addr} {xs : List V} (h : H c = some (.lst xs)) :
    LenV K (.ref c) H xs.length := .inl ⟨xs, SqL.of h, rfl⟩
theorem len_tup {K : PySem.W.Frag} {H : Hp} {c : Addr} {xs : List V} (h : H c = some (.tup xs)) :
    LenV K (.ref c) H xs.length := .inr ⟨xs, SqT.of h, rfl⟩
theorem len_sq {K : PySem.W.Frag} {H : Hp} {c : Addr} {xs : List V} (h : SqL K H c xs) :
    LenV K (.ref c) H xs.length := .inl ⟨xs, h, rfl⟩
end L2

/-! own rules 7: the errors of a package as values -/
namespace L2
open PySem PySem.Spec PyProof.Rows
theorem PE.imp {X : Cx} {e : Expr} {t t' : TE} (h : PE X e t) (k : ∀ σ H Q, t' σ H Q → t σ H Q) : PE X e t' :=
  ⟨fun pins s σ H Q I q => h.run pins s σ H Q I (k σ H Q q)⟩
/-- all but what stands at p is as it was -/
def But (p : Addr) (H H' : Hp) : Prop := ∀ b, b ≠ p → ∀ o, H b = some o → H' b = some o
theorem But.refl {p : Addr} {H : Hp} : But p H H := fun _ _ _ e => e
theorem But.trans {p : Addr} {H H1 H2 : Hp} (a : But p H H1) (b : But p H1 H2) : But p H H2 :=
  fun c hc o e => b c hc o (a c hc o e)
theorem Same.but {p : Addr} {H H' : Hp} (h : Same H H') : But p H H' := fun b _ o e => h b o e
/-- an error object, its fields the last one first -/
def XV (H : Hp) (a C : Addr) (fs : List (Str × V)) : Prop :=
  (fs = [] ∧ H a = some (exo a C none)) ∨ ∃ dx, H a = some (exo a C (some dx)) ∧ H dx = some (exd dx fs)
theorem XV.same {H H' : Hp} {a C : Addr} {fs : List (Str × V)} (h : XV H a C fs) (s : Same H H') : XV H' a C fs := by
  rcases h with ⟨e, h⟩ | ⟨dx, h, g⟩
  · exact .inl ⟨e, s _ _ h⟩
  · exact .inr ⟨dx, s _ _ h, s _ _ g⟩
/-- what __init__ keeps -/
def spIni (K : PySem.W.Frag) (C : Addr) (fs : List Str) : Sp := fun vs H Q _ => ∃ (a : Addr) (xs : List V),
  vs = .ref a :: xs ∧ xs.length = fs.length ∧ H a = some (exo a C none) ∧
  ∀ (H' : Hp), But a H H' → XV H' a C (fs.zip xs).reverse → Q .non H'
/-- an error class of the top, by its name -/
structure ErrK (K : PySem.W.Frag) (mg : Str → Option Value) (x : Str) (fs : List Str) : Prop where
  mgx : mg x = some (.ref (adr mg x))
  T : OexC K (adr mg x)
  X : XCl K (adr mg x)
  na : ∀ f ∈ fs, PySem.W.findIn K (.ref (adr mg x)) f = some none
/-- its __init__ -/
def IniK (K : PySem.W.Frag) (mg : Str → Option Value) (x q : Str) (st : Stmt) : Prop :=
  ∃ fI fd, XMk K (adr mg x) fI ∧ Fun K "__init__" q st fI fd
/-- how keywords bind, the last one first -/
def KwR (fd : FuncData) (fs : List Str) : Prop := ∀ (s : Shared) (u : Value) (ws : List Value), ws.length = fs.length →
  BindsTo s fd ⟨[u], fs.reverse.zip ws⟩ ((("self" : Str) :: fs).zip (u :: ws.reverse))
/-- what making one keeps -/
def MkE (P : Program) (w : World) (K : PySem.W.Frag) (mg : Str → Option Value) (base : Heap) (x : Str) (fs : List Str) :
    Prop := mg x = some (.ref (adr mg x)) ∧ ∃ fI fd, XMk K (adr mg x) fI ∧ Binds K fd ("self" :: fs) [] ∧ KwR fd fs ∧
  FnOk P w K mg base CX0 1 fI fd ("self" :: fs) (spIni K (adr mg x) fs)
section
variable {P : Program} {w : World} {K : PySem.W.Frag} {mg : Str → Option Value} {base : Heap}
theorem ini1 {x q f : Str} {st : Stmt} {fI : Addr} {fd : FuncData} (E : ErrK K mg x [f])
    (F : Fun K "__init__" q st fI fd) (S : FnScope ["self", f] ["self", f] (defScope st))
    (hb : ∀ (cdv : Value) (A : Around) (outer : List Env) (s : Shared) (H : Hp) (E : XK),
      PSs (cxOf CX0 P w K mg base ["self", f] q (defScope st) fI cdv A outer s H E).nox (defBody st)
        (tOst K f (tVar 0) (tVar 1))) :
    FnOk P w K mg base CX0 1 fI fd ["self", f] (spIni K (adr mg x) [f]) := by
  refine F.ok S (fun vs H Q E h => ?_) (fun cdv A outer s H vs Q E' hr h => ?_)
  · obtain ⟨a, xs, rfl, l, _⟩ := h
    simp only [List.length_cons] at l ⊢
    omega
  · obtain ⟨a, xs, rfl, l, ha, k⟩ := h
    obtain ⟨v, rfl⟩ : ∃ v, xs = [v] := by
      match xs, l with
      | [v], _ => exact ⟨v, rfl⟩
    refine ⟨_, hb cdv A outer s H E', ?_⟩
    refine ⟨_, rfl, _, rfl, a, _, rfl, E.T, E.na f (by simp), .inl ⟨ha, fun dx nd ne => ?_⟩⟩
    refine k _ (fun b hb o e => upd_oth hb (upd_new nd e)) (.inr ⟨dx, upd_same, ?_⟩)
    exact (upd_ne ne).trans upd_same
theorem ini2 {x q f g : Str} {st : Stmt} {fI : Addr} {fd : FuncData} (E : ErrK K mg x [f, g])
    (F : Fun K "__init__" q st fI fd) (S : FnScope ["self", f, g] ["self", f, g] (defScope st))
    (hb : ∀ (cdv : Value) (A : Around) (outer : List Env) (s : Shared) (H : Hp) (E : XK),
      PSs (cxOf CX0 P w K mg base ["self", f, g] q (defScope st) fI cdv A outer s H E).nox (defBody st)
        (tSeq (tOst K f (tVar 0) (tVar 1)) (tOst K g (tVar 0) (tVar 2)))) :
    FnOk P w K mg base CX0 1 fI fd ["self", f, g] (spIni K (adr mg x) [f, g]) := by
  refine F.ok S (fun vs H Q E h => ?_) (fun cdv A outer s H vs Q E' hr h => ?_)
  · obtain ⟨a, xs, rfl, l, _⟩ := h
    simp only [List.length_cons] at l ⊢
    omega
  · obtain ⟨a, xs, rfl, l, ha, k⟩ := h
    obtain ⟨v, u, rfl⟩ : ∃ v u, xs = [v, u] := by
      match xs, l with
      | [v, u], _ => exact ⟨v, u, rfl⟩
    refine ⟨_, hb cdv A outer s H E', ?_⟩
    refine ⟨_, rfl, _, rfl, a, _, rfl, E.T, E.na f (by simp), .inl ⟨ha, fun dx nd ne => ?_⟩⟩
    have ha2 : (upd (upd H dx (exd dx [(f, v)])) a (exo a (adr mg x) (some dx))) a = some (exo a (adr mg x) (some dx)) :=
      upd_same
    have hd2 : (upd (upd H dx (exd dx [(f, v)])) a (exo a (adr mg x) (some dx))) dx = some (exd dx [(f, v)]) :=
      (upd_ne ne).trans upd_same
    refine ⟨_, rfl, _, rfl, a, _, rfl, E.T, E.na g (by simp), .inr ⟨dx, _, ha2, hd2, (by show 1 ≤ 900; decide), ?_⟩⟩
    refine k _ (fun b hb o e => ?_) (.inr ⟨dx, (upd_ne ne.symm).trans ha2, upd_same⟩)
    exact upd_oth (ne_of_none e nd) (upd_oth hb (upd_new nd e))
end
/-- C(..): a new error object -/
def tErr (C : Addr) (fs : List Str) (gv : List V → List V) (ta : TA) : TE := fun σ H Q => ta σ H fun xs H1 =>
  xs.length = fs.length ∧ fs.length ≤ 900 ∧ ∀ (a : Addr) (H' : Hp), H1 a = none → Same H1 H' →
    XV H' a C (fs.zip (gv xs)).reverse → Q (.ref a) H'
theorem tErr_mk {K : PySem.W.Frag} {C : Addr} {fs : List Str} {gv : List V → List V} {H1 : Hp} {Q : VK} {xs : List V}
    (hg : (gv xs).length = xs.length)
    (h : xs.length = fs.length ∧ fs.length ≤ 900 ∧ ∀ (a : Addr) (H' : Hp), H1 a = none → Same H1 H' →
      XV H' a C (fs.zip (gv xs)).reverse → Q (.ref a) H') :
    xs.length ≤ 1000 ∧ ∀ a, H1 a = none → spIni K C fs (.ref a :: gv xs) (upd H1 a (exo a C none))
      (fun v H2 => v = .non ∧ Q (.ref a) H2) E0 := by
  obtain ⟨l, l9, k⟩ := h
  refine ⟨by omega, fun a hn => ⟨a, gv xs, rfl, by omega, upd_same, fun H' hb hx => ⟨rfl, k a H' hn (fun b o e => ?_) hx⟩⟩⟩
  exact hb b (ne_of_none e hn) o (upd_new hn e)
section
variable {X : Cx} {x : Str} {p pos : Pos} {e : Expr} {es : List Expr} {ta : TA} {fs : List Str} {j : Nat}
theorem pe_errP (M : MkE X.prog X.w X.K X.mg X.base x fs) (hr : Room j X.A) (hg : Gl X x) (ha : PA X (e :: es) ta)
    (hj : 2 ≤ j := by decide) (hdb : (x == ("__debug__" : Str)) = false := by decide)
    (he : starEach (e :: es) X.env = (false, eval e X.env) :: starEach es X.env := by rfl)
    (hpl : (backTo pos (starEach es X.env)).any (·.1) = false := by rfl) :
    PE X (.Call (.Name x p) (e :: es) [] pos) (tErr (adr X.mg x) fs id ta) := by
  obtain ⟨hm, fI, fd, XM, hb, _, F⟩ := M
  refine ⟨fun pins s σ H Q I h => ?_⟩
  refine wpAny_Call_Name_kw (ld_glob I hg hm ?_ hdb)
  refine PySem.W.callWith_K (h₀ := X.base) I.ok.mod.kin XM.T.kC
    (thn (ha.run pos pins s σ H _ I h) fun us s1 ⟨vs, H1, I1, r, q⟩ => ⟨I1.kIn, ?_⟩) he hpl
  have l := q.1
  obtain ⟨hl, q⟩ := tErr_mk (gv := id) (K := X.K) (Q := Q) rfl q
  have hz : us.length ≤ sizeLine := by
    rw [← Paired.length r, sizeLine_eq]
    omega
  refine run_mkx (us := us) XM F (hr.mono hj) I1 r (fun s' a kin => ?_) hz q
  have z := hb s' (Value.ref a :: us) kin (by
    rw [List.append_nil, List.length_cons, ← Paired.length r, l]
    rfl)
  rw [List.append_nil] at z
  exact z
theorem rel_rev {vs : List V} {us : List Value} (r : Vals vs us) : Vals vs.reverse us.reverse := by
  induction r with
  | nil => exact .nil
  | cons a b ih =>
    rw [List.reverse_cons, List.reverse_cons]
    exact ih.append (.cons a .nil)
theorem pe_errK {kws : List Keyword} {ks : List Str} (M : MkE X.prog X.w X.K X.mg X.base x fs) (hr : Room j X.A)
    (hg : Gl X x) (hkw : PK X kws ta) (hks : (backToKw pos (keywordEach kws X.env)).filterMap (·.1) = ks := by rfl)
    (hfs : ks = fs.reverse := by rfl) (hj : 2 ≤ j := by decide)
    (hall : (backToKw pos (keywordEach kws X.env)).all (·.1.isSome) = true := by rfl)
    (hdb : (x == ("__debug__" : Str)) = false := by decide)
    (hpl : ((backTo pos (starEach [] X.env)).any (·.1) ||
      (backToKw pos (keywordEach kws X.env)).any (·.1.isNone)) = false := by rfl) :
    PE X (.Call (.Name x p) [] kws pos) (tErr (adr X.mg x) fs List.reverse ta) := by
  obtain ⟨hm, fI, fd, XM, _, hb, F⟩ := M
  refine ⟨fun pins s σ H Q I h => ?_⟩
  refine wpAny_Call_Name_kw (ld_glob I hg hm ?_ hdb)
  refine PySem.W.callWith_KW0 (h₀ := X.base) I.ok.mod.kin XM.T.kC hall
    (thn (hkw.run pos pins s σ H _ I h) fun us s1 ⟨vs, H1, I1, r, q⟩ => ⟨I1.kIn, ?_⟩) hpl
  rw [hks, hfs]
  have l := q.1
  obtain ⟨hl, q⟩ := tErr_mk (gv := List.reverse) (K := X.K) (Q := Q) (by simp) q
  refine run_mkx (us := []) XM F (hr.mono hj) I1 (rel_rev r) (fun s' a kin => ?_) (Nat.zero_le _) q
  exact hb s' (Value.ref a) us (by rw [← Paired.length r, l])
/-- C(), a class without an own __init__ -/
theorem pe_err0 (E : ErrK X.K X.mg x [])
    (q : PySem.W.excIn X.K (adr X.mg x) PySem.HandSPX.veTail "ValueError.__new__" = true) (hg : Gl X x)
    (hdb : (x == ("__debug__" : Str)) = false := by decide) :
    PE X (.Call (.Name x p) [] [] pos) (tErr (adr X.mg x) [] id tNil) := by
  refine ⟨fun pins s σ H Q I h => ?_⟩
  refine wpAny_Call_Name_kw (ld_glob I hg E.mgx ?_ hdb)
  refine PySem.W.callWith_K0 I.kIn E.T.kC ?_
  show wpAny _ _ (call (.ref (adr X.mg x)) []) _ _ _
  obtain ⟨bm, N, nm, qn, bs, hdct, sn, sub, ab, col, dd, k0, k1, k2, k3, k5, mN, hC, hN, hni, T⟩ := exc_obj I.kIn q
  refine wpAny_call_exc_subT F.excBase_ValueError T hC hN hni (fun h' a hm => ?_) (Nat.zero_le _)
  have hn : H a = none := I.hok.gone hm.new
  obtain ⟨t, ht, _, _⟩ := hm.there
  obtain ⟨_, _, k⟩ := h
  exact ⟨.ref a, upd H a (exo a (adr X.mg x) none), I.laidN hm.keeps hm.new hn (exo_ok ht), rfl,
    k a _ hn (Same.new hn) (.inl ⟨rfl, upd_same⟩)⟩
end
end L2

/-! own rules 8: repr of data with dicts -/
namespace L2
open PySem PySem.Spec PyProof.Rows
def kd : Key → PyData
  | .inl i => .int i
  | .inr x => .str x
mutual
/-- what a value is as data; dicts by int and text keys -/
inductive Dq (K : PySem.W.Frag) (H : Hp) : V → PyData → Prop
  | non : Dq K H .non .none
  | bl (b : Bool) : Dq K H (.bl b) (.bool b)
  | int (i : Int) : Dq K H (.int i) (.int i)
  | str (x : Str) : Dq K H (.str x) (.str x)
  | lst {a : Addr} {xs : List V} {ds : List PyData} : SqL K H a xs → DqAll K H xs ds → Dq K H (.ref a) (.list ds)
  | tup {a : Addr} {xs : List V} {ds : List PyData} : SqT K H a xs → DqAll K H xs ds → Dq K H (.ref a) (.tuple ds)
  | dic {a : Addr} {kvs : List (Key × V)} {ds : List (PyData × PyData)} : H a = some (.dK kvs) → DqKv K H kvs ds →
      Dq K H (.ref a) (.dict ds)
inductive DqAll (K : PySem.W.Frag) (H : Hp) : List V → List PyData → Prop
  | nil : DqAll K H [] []
  | cons {v : V} {vs : List V} {d : PyData} {ds : List PyData} : Dq K H v d → DqAll K H vs ds →
      DqAll K H (v :: vs) (d :: ds)
inductive DqKv (K : PySem.W.Frag) (H : Hp) : List (Key × V) → List (PyData × PyData) → Prop
  | nil : DqKv K H [] []
  | cons {k : Key} {v : V} {vs : List (Key × V)} {d : PyData} {ds : List (PyData × PyData)} : Dq K H v d →
      DqKv K H vs ds → DqKv K H ((k, v) :: vs) ((kd k, d) :: ds)
end
section
variable {X : Cx} {pins : List (Addr × Obj)} {σ : St} {H : Hp} {s : Shared}
theorem rk_key {k : Key} {u : Value} (h : keyIs k u = true) (hs : (kd k).showable = true)
    (hz : (kd k).shown.length ≤ sizeLine) :
    Reads s.heap u (kd k) [] ∧ ∀ bs n, ReprK X.prog X.w bs s.heap n u (kd k).shown := by
  rcases keyIs_shape h with ⟨i, t, rfl, rfl⟩ | ⟨x, t, rfl, rfl⟩
  · refine ⟨Reads.int i t, fun bs n => ?_⟩
    simp only [kd, PyData.shown]
    exact .of_is (ReprIs.int t (by simpa [kd, PyData.showable] using hs)) _ _ _
  · refine ⟨Reads.str x t, fun bs n => ?_⟩
    simp only [kd, PyData.shown]
    exact .of_is (ReprIs.str x t (by simpa only [kd, PyData.shown] using hz)) _ _ _
theorem ram_app {h : Heap} {n m : Nat} {as bs : List Addr} (a : ReadAtMost h n as) (b : ReadAtMost h m bs) :
    ReadAtMost h (max n m) (as ++ bs) := by
  intro c hc
  rcases List.mem_append.mp hc with q | q
  · obtain ⟨d, xs, r, l⟩ := a c q
    exact ⟨d, xs, r, Nat.le_trans l (Nat.le_max_left _ _)⟩
  · obtain ⟨d, xs, r, l⟩ := b c q
    exact ⟨d, xs, r, Nat.le_trans l (Nat.le_max_right _ _)⟩
theorem ek_more {P : Program} {w : World} {h : Heap} {as bs : List Addr} {n m : Nat} (hs : ∀ b ∈ as, b ∈ bs) (hn : n ≤ m) :
    ∀ {es : List DictEntry} {ps : List Str}, ReprEntriesK P w as h n es ps → ReprEntriesK P w bs h m es ps
  | _, _, .nil => .nil
  | _, _, .cons a b c => .cons ((a.more hs).level_le hn) ((b.more hs).level_le hn) (ek_more hs hn c)
mutual
theorem Dq.rk (I : Inv X pins σ H s) : ∀ {v : V} {d : PyData}, Dq X.K H v d → ∀ u, RelV v u → d.showable = true →
    d.shown.length ≤ sizeLine → ∃ as bs, Reads s.heap u d as ∧ ReadAtMost s.heap d.depth bs ∧
      ReprK X.prog X.w bs s.heap d.depth u d.shown
  | _, _, .non, u, r, _, _ => by
    cases r
    exact ⟨_, [], Reads.none, fun _ h => (nomatch h), by simp only [PyData.shown]; exact .of_is ReprIs.none _ _ _⟩
  | _, _, .bl b, u, r, _, _ => by
    cases r
    exact ⟨_, [], Reads.bool b, fun _ h => (nomatch h), by simp only [PyData.shown]; exact .of_is (ReprIs.bool b) _ _ _⟩
  | _, _, .int i, u, r, hs, _ => by
    obtain ⟨t, rfl⟩ := r
    exact ⟨_, [], Reads.int i t, fun _ h => (nomatch h), by
      simp only [PyData.shown]
      exact .of_is (ReprIs.int t (by simpa [PyData.showable] using hs)) _ _ _⟩
  | _, _, .str x, u, r, _, hz => by
    obtain ⟨t, rfl⟩ := r
    exact ⟨_, [], Reads.str x t, fun _ h => (nomatch h), by
      simp only [PyData.shown]
      exact .of_is (ReprIs.str x t (by simpa only [PyData.shown] using hz)) _ _ _⟩
  | _, _, .lst (a := a) (ds := ds) hq ha, u, r, hs, hz => by
    cases r
    obtain ⟨its, rv, ⟨o, n, ho, hc, _, hd⟩, _⟩ := I.list hq
    have hz1 : (listText (PyData.shownAll ds)).length ≤ sizeLine := by simpa only [PyData.shown] using hz
    obtain ⟨as, bs, rd, hb, hk⟩ := DqAll.rk I ha its rv (by simpa [PyData.showable] using hs)
      fun t ht => Nat.le_trans (listText_mem_le ht) hz1
    have R : Reads s.heap (.ref a) (.list ds) _ := .list ho hc hd rd
    have nb : a ∉ bs := not_mem_of_deeper R (by simp only [PyData.depth]; omega) hb
    refine ⟨_, a :: bs, R, ReadAtMost.cons R (by simp only [PyData.depth]; omega) hb, ?_⟩
    simp only [PyData.depth, PyData.shown]
    cases its with
    | nil =>
      cases rd
      simp only [PyData.shownAll, listText_nil]
      exact ReprK.listEmpty ho hc hd
    | cons y l => exact ReprK.list ho hc hd nb (by simpa using hk.length_eq) fun i z e => hk.item i z (by simpa using e)
  | _, _, .tup (a := a) (ds := ds) hq ha, u, r, hs, hz => by
    cases r
    obtain ⟨its, rv, ⟨o, ho, hc, n, hd⟩, _⟩ := I.tuple hq
    have hz1 : (tupleText (PyData.shownAll ds)).length ≤ sizeLine := by simpa only [PyData.shown] using hz
    obtain ⟨as, bs, rd, hb, hk⟩ := DqAll.rk I ha its rv (by simpa [PyData.showable] using hs)
      fun t ht => Nat.le_trans (tupleText_mem_le ht) hz1
    have R : Reads s.heap (.ref a) (.tuple ds) _ := .tuple ho hc hd rd
    have nb : a ∉ bs := not_mem_of_deeper R (by simp only [PyData.depth]; omega) hb
    refine ⟨_, a :: bs, R, ReadAtMost.cons R (by simp only [PyData.depth]; omega) hb, ?_⟩
    simp only [PyData.depth, PyData.shown]
    exact ReprK.tuple ho hc hd nb hk
  | _, _, .dic (a := a) (kvs := kvs) (ds := ds) hq ha, u, r, hs, hz => by
    cases r
    obtain ⟨_, hsys, vs, rv, o, es, ep, ho, hc, hd, _, hp, _⟩ :=
      (show ObjOk X.prog X.w H s.heap a (.dK kvs) from I.hok a _ hq)
    have hz1 : (dictText (PyData.shownKv ds)).length ≤ sizeLine := by simpa only [PyData.shown] using hz
    obtain ⟨as, cs, bs, r1, r2, hb, hk⟩ := DqKv.rk I ha es.toList vs rv hp (by simpa [PyData.showable] using hs)
      fun t ht => Nat.le_trans (dictText_mem_le ht) hz1
    have R : Reads s.heap (.ref a) (.dict ds) _ := .dict ho hc.1 hd r1 r2
    have nb : a ∉ bs := not_mem_of_deeper R (by simp only [PyData.depth]; omega) hb
    refine ⟨_, a :: bs, R, ReadAtMost.cons R (by simp only [PyData.depth]; omega) hb, ?_⟩
    simp only [PyData.depth, PyData.shown]
    exact ReprK.dict ho hc.1 hd hsys nb hk
theorem DqAll.rk (I : Inv X pins σ H s) : ∀ {vs : List V} {ds : List PyData}, DqAll X.K H vs ds → ∀ us, Vals vs us →
    PyData.showableAll ds = true → (∀ t ∈ PyData.shownAll ds, t.length ≤ sizeLine) →
    ∃ as bs, ReadsAll s.heap us ds as ∧ ReadAtMost s.heap (PyData.depthAll ds) bs ∧
      ReprAllK X.prog X.w bs s.heap (PyData.depthAll ds) us (PyData.shownAll ds)
  | _, _, .nil, us, r, _, _ => by
    cases r
    exact ⟨_, [], .nil, fun _ h => (nomatch h), by simp only [PyData.shownAll]; exact .nil⟩
  | _, _, .cons (d := d) (ds := ds) h hl, us, r, hs, hz => by
    cases r with
    | cons r1 r2 =>
      have h2 : d.showable = true ∧ PyData.showableAll ds = true := by simpa [PyData.showableAll] using hs
      obtain ⟨a1, b1, q1, m1, k1⟩ := Dq.rk I h _ r1 h2.1 (hz _ (by simp only [PyData.shownAll]; exact List.mem_cons_self))
      obtain ⟨a2, b2, q2, m2, k2⟩ := DqAll.rk I hl _ r2 h2.2
        fun t ht => hz t (by simp only [PyData.shownAll]; exact List.mem_cons_of_mem _ ht)
      refine ⟨_, b1 ++ b2, .cons q1 q2, by simp only [PyData.depthAll]; exact ram_app m1 m2, ?_⟩
      simp only [PyData.depthAll, PyData.shownAll]
      exact .cons ((k1.more fun b hb => List.mem_append_left _ hb).level_le (Nat.le_max_left _ _))
        (k2.more_le (fun b hb => List.mem_append_right _ hb) (Nat.le_max_right _ _))
theorem DqKv.rk (I : Inv X pins σ H s) : ∀ {vs : List (Key × V)} {ds : List (PyData × PyData)}, DqKv X.K H vs ds →
    ∀ (es : List DictEntry) (us : List (Key × Value)), KV vs us → Pairs (mixKind X.prog X.w) es us →
    PyData.showableKv ds = true → (∀ t ∈ PyData.shownKv ds, t.length ≤ sizeLine) →
    ∃ as cs bs, ReadsAll s.heap (es.map (·.key)) (ds.map (·.1)) as ∧ ReadsAll s.heap (es.map (·.val)) (ds.map (·.2)) cs ∧
      ReadAtMost s.heap (PyData.depthKv ds) bs ∧
      ReprEntriesK X.prog X.w bs s.heap (PyData.depthKv ds) es (PyData.shownKv ds)
  | _, _, .nil, es, us, r, p, _, _ => by
    cases r
    cases p
    exact ⟨_, _, [], .nil, .nil, fun _ h => (nomatch h), by simp only [PyData.shownKv]; exact .nil⟩
  | _, _, .cons (k := k) (d := d) (ds := ds) h hl, es, us, r, p, hs, hz => by
    cases r with
    | cons r1 r2 =>
      cases p with
      | cons p1 p2 p3 =>
        obtain ⟨e1, r1⟩ := r1
        have h2 : ((kd k).showable = true ∧ d.showable = true) ∧ PyData.showableKv ds = true := by
          simpa [PyData.showableKv] using hs
        have big : ((kd k).shown ++ ": " ++ d.shown).length ≤ sizeLine :=
          hz _ (by simp only [PyData.shownKv]; exact List.mem_cons_self)
        have big2 : (kd k).shown.length + 2 + d.shown.length ≤ sizeLine := by
          have e2 : ((kd k).shown ++ ": " ++ d.shown).length = (kd k).shown.length + 2 + d.shown.length := by
            rw [Str.length_append, Str.length_append]
            rfl
          omega
        rw [← p2] at r1
        rw [← e1] at p1
        dsimp only at p1
        obtain ⟨q0, k0⟩ := rk_key (X := X) (s := s) p1 h2.1.1 (by omega)
        obtain ⟨a1, b1, q1, m1, k1⟩ := Dq.rk I h _ r1 h2.1.2 (by omega)
        obtain ⟨a2, c2, b2, q2, q3, m2, k2⟩ := DqKv.rk I hl _ _ r2 p3 h2.2
          fun t ht => hz t (by simp only [PyData.shownKv]; exact List.mem_cons_of_mem _ ht)
        refine ⟨_, _, b1 ++ b2, .cons q0 q2, .cons q1 q3, ?_, ?_⟩
        · simp only [PyData.depthKv]
          intro c hc
          obtain ⟨d', xs, r', l⟩ := ram_app m1 m2 c hc
          exact ⟨d', xs, r', by omega⟩
        · simp only [PyData.depthKv, PyData.shownKv]
          exact .cons (k0 _ _) ((k1.more fun b hb => List.mem_append_left _ hb).level_le (by omega))
            (ek_more (fun b hb => List.mem_append_right _ hb) (Nat.le_max_right _ _) k2)
end
end
section
variable {X : Cx}
/-- repr(x), x a list, a tuple or a dict of data -/
def rShq (K : PySem.W.Frag) : List V → Hp → VK → Prop := fun xs H Q => ∃ (a : Addr) (d : PyData), xs = [.ref a] ∧
  Dq K H (.ref a) d ∧ d.showable = true ∧ d.depth ≤ 60 ∧ d.shown.length ≤ sizeLine ∧ Q (.str d.shown) H
theorem call_repq (hA : X.A.guards = some []) (hu : X.A.units + 64 < cLine) :
    CallR X (.builtin "repr") (rShq X.K) := by
  intro pins s σ H xs us Q I r h
  obtain ⟨a, d, rfl, hd, hs, hdp, hz, q⟩ := h
  obtain ⟨u, rfl, ru⟩ := vals1 r
  obtain rfl : u = Value.ref a := ru
  have fin : ∀ (t : Str), t = d.shown → ∀ (h' : Heap) (u : Tok) (tk : Nat), (∀ b o, s.heap.get? b = some o → h'.get? b = some o) →
      ∃ x tt, Value.str t u = .str x tt ∧ EP X pins σ Q (.str t u) { s with heap := h', toks := tk } := by
    intro t et h' u tk keep
    subst et
    exact ⟨_, _, rfl, .str _, H, I.kept keep, ⟨u, rfl⟩, q⟩
  cases hd with
  | lst hq ha =>
    rename_i xs ds
    obtain ⟨its, rv, ⟨o, n, ho, hc, _, hdd⟩, _⟩ := I.list hq
    have hz1 : (listText (PyData.shownAll ds)).length ≤ sizeLine := by simpa only [PyData.shown] using hz
    obtain ⟨as, bs, rd, hb, hk⟩ := DqAll.rk I ha its rv (by simpa [PyData.showable] using hs)
      fun t ht => Nat.le_trans (listText_mem_le ht) hz1
    have R : Reads s.heap (.ref a) (.list ds) _ := .list ho hc hdd rd
    have nb : a ∉ bs := not_mem_of_deeper R (by simp only [PyData.depth]; omega) hb
    refine call_repr_slot (by omega) ⟨o, ho, hc⟩ F.slot_list_repr.toG ?_
    simp only [PyData.depth] at hdp
    cases its with
    | nil =>
      cases rd
      exact call_list_repr_empty ⟨o, ho, hc⟩ ho hdd (fin "[]" (by simp [PyData.shown, PyData.shownAll, listText_nil]) _ _ _ fun _ _ e => e)
    | cons y l =>
      exact call_list_reprK ho hc hdd nb (by simpa using hk.length_eq) (fun i z e => hk.item i z (by simpa using e)) hA
        (fun b _ => Clear.nil b) (by show X.A.units + 1 + _ < cLine; omega) (fun _ _ e => e)
        (fun h' u tk keep => fin _ (by simp only [PyData.shown]) h' u tk keep) hz1
  | tup hq ha =>
    rename_i xs ds
    obtain ⟨its, rv, ⟨o, ho, hc, n, hdd⟩, _⟩ := I.tuple hq
    have hz1 : (tupleText (PyData.shownAll ds)).length ≤ sizeLine := by simpa only [PyData.shown] using hz
    obtain ⟨as, bs, rd, hb, hk⟩ := DqAll.rk I ha its rv (by simpa [PyData.showable] using hs)
      fun t ht => Nat.le_trans (tupleText_mem_le ht) hz1
    have R : Reads s.heap (.ref a) (.tuple ds) _ := .tuple ho hc hdd rd
    have nb : a ∉ bs := not_mem_of_deeper R (by simp only [PyData.depth]; omega) hb
    refine call_repr_slot (by omega) ⟨o, ho, hc⟩ F.slot_tuple_repr ?_
    simp only [PyData.depth] at hdp
    exact call_tuple_reprK ho hc hdd nb hk hA (fun b _ => Clear.nil b) (by show X.A.units + 1 + _ < cLine; omega)
      (fun _ _ e => e) (fun h' u tk keep => fin _ (by simp only [PyData.shown]) h' u tk keep) hz1
  | dic hq ha =>
    rename_i kvs ds
    obtain ⟨_, hsys, vs, rv, o, es, ep, ho, hc, hdd, _, hp, _⟩ :=
      (show ObjOk X.prog X.w H s.heap a (.dK kvs) from I.hok a _ hq)
    have hz1 : (dictText (PyData.shownKv ds)).length ≤ sizeLine := by simpa only [PyData.shown] using hz
    obtain ⟨as, cs, bs, r1, r2, hb, hk⟩ := DqKv.rk I ha es.toList vs rv hp (by simpa [PyData.showable] using hs)
      fun t ht => Nat.le_trans (dictText_mem_le ht) hz1
    have R : Reads s.heap (.ref a) (.dict ds) _ := .dict ho hc.1 hdd r1 r2
    have nb : a ∉ bs := not_mem_of_deeper R (by simp only [PyData.depth]; omega) hb
    refine call_repr_slot (by omega) ⟨o, ho, hc.1⟩ F.slot_dict_repr ?_
    simp only [PyData.depth] at hdp
    exact call_dict_reprK ho hc.1 hdd hsys nb hk hA (fun b _ => Clear.nil b) (by show X.A.units + 1 + _ < cLine; omega)
      (fun _ _ e => e) (fun h' u tk keep => fin _ (by simp only [PyData.shown]) h' u tk keep) hz1
end
end L2

namespace KK
open PySem L2
local macro_rules | `(tactic| walk_at "hp") => `(tactic| first
  | assumption
  | exact upd_same
  | (refine upd_new (by assumption) ?_; walk_at "hp")
  | (refine upd_oth (by first | assumption | (apply Ne.symm; assumption)) ?_; walk_at "hp"))
local macro_rules | `(tactic| walk_at "sq") => `(tactic| first
  | assumption
  | exact SqL.of (by walk_at "hp")
  | (refine sq_new (by assumption) ?_; walk_at "sq")
  | (refine sq_oth (by first | assumption | (apply Ne.symm; assumption)) ?_; walk_at "sq"))
def top (i : Nat) : Stmt := PySem.Challenge.pw_headgap_k01_errors_made.main.body.getD i (.Pass ⟨0, 0, 0, 0⟩)
abbrev s_lpen : Stmt := top 26
abbrev n_lpen : List Str := ["_law_script"]
theorem sc_lpen : FnScope n_lpen ["_law_script"] (defScope s_lpen) :=
  ⟨rfl, rfl, rfl, by decide +kernel, rfl, by decide +kernel, by decide +kernel⟩

abbrev s_ldraw : Stmt := top 27
abbrev n_ldraw : List Str := ["_law_pen_here", "_law_many", "_law_digit", "_law_turn", "_law_cell", "_law_great", "_law_blend"]
theorem sc_ldraw : FnScope n_ldraw ["_law_pen_here", "_law_many"] (defScope s_ldraw) :=
  ⟨rfl, rfl, rfl, by decide +kernel, rfl, by decide +kernel, by decide +kernel⟩

def blts : List Str := ["len", "repr", "isinstance", "abs", "int", "list", "range", "ValueError", "LookupError",
  "ArithmeticError", "TypeError"]
abbrev s_lpick : Stmt := top 28
abbrev n_lpick : List Str := ["_law_pen_here", "_law_some"]
theorem sc_lpick : FnScope n_lpick ["_law_pen_here", "_law_some"] (defScope s_lpick) :=
  ⟨rfl, rfl, rfl, by decide +kernel, rfl, by decide +kernel, by decide +kernel⟩

abbrev s_lmade : Stmt := top 29
abbrev n_lmade : List Str := ["_law_x", "_law_y"]
theorem sc_lmade : FnScope n_lmade ["_law_x", "_law_y"] (defScope s_lmade) :=
  ⟨rfl, rfl, rfl, by decide +kernel, rfl, by decide +kernel, by decide +kernel⟩

abbrev s_lfields : Stmt := top 30
abbrev n_lfields : List Str := ["_law_error", "_law_found"]
theorem sc_lfields : FnScope n_lfields ["_law_error"] (defScope s_lfields) :=
  ⟨rfl, rfl, rfl, by decide +kernel, rfl, by decide +kernel, by decide +kernel⟩

abbrev s_law : Stmt := top 31
abbrev n_law : List Str := ["_law_script", "_law_pen_here", "_law_some", "_law_turn", "_law_x", "_law_y", "_law_error", "_law_other", "_law_name", "_law_told"]
theorem sc_law : FnScope n_law ["_law_script"] (defScope s_law) :=
  ⟨rfl, rfl, rfl, by decide +kernel, rfl, by decide +kernel, by decide +kernel⟩

def errs : List (Str × List Str) := [("BadName", ["value"]), ("BadLetter", ["value"]), ("BadAnswer", ["value"]), ("BadNumber", ["value"]), ("BadWord", ["value"]), ("NoState", ["value"]), ("NoCell", ["value"]), ("NoText", ["value"]), ("Taken", ["value"]), ("BadConverter", ["part"]), ("BadGrowth", ["part"]), ("BadPaper", ["part"]), ("BadArray", ["part"]), ("BadDeed", ["part"]), ("BadLog", ["at"]), ("NoTail", ["state"]), ("RunOver", ["cell"]), ("NoRoom", ["cell"]), ("BadCommand", ["word"]), ("BadText", ["line", "word"]), ("NoStep", ["at", "state"]), ("TooMany", ["what", "most"]), ("Nothing", [])]
def enames : List Str := ["BadName", "BadLetter", "BadAnswer", "BadNumber", "BadWord", "NoState", "NoCell", "NoText", "Taken", "BadConverter", "BadGrowth", "BadPaper", "BadArray", "BadDeed", "BadLog", "NoTail", "RunOver", "NoRoom", "BadCommand", "BadText", "NoStep", "TooMany", "Nothing"]
abbrev s_iBadName : Stmt := inClass (top 2) 0
abbrev s_iBadLetter : Stmt := inClass (top 3) 0
abbrev s_iBadAnswer : Stmt := inClass (top 5) 0
abbrev s_iBadNumber : Stmt := inClass (top 8) 0
abbrev s_iBadWord : Stmt := inClass (top 10) 0
abbrev s_iNoState : Stmt := inClass (top 14) 0
abbrev s_iNoCell : Stmt := inClass (top 17) 0
abbrev s_iNoText : Stmt := inClass (top 18) 0
abbrev s_iTaken : Stmt := inClass (top 22) 0
abbrev s_iBadConverter : Stmt := inClass (top 6) 0
abbrev s_iBadGrowth : Stmt := inClass (top 7) 0
abbrev s_iBadPaper : Stmt := inClass (top 9) 0
abbrev s_iBadArray : Stmt := inClass (top 12) 0
abbrev s_iBadDeed : Stmt := inClass (top 13) 0
abbrev s_iBadLog : Stmt := inClass (top 11) 0
abbrev s_iNoTail : Stmt := inClass (top 16) 0
abbrev s_iRunOver : Stmt := inClass (top 19) 0
abbrev s_iNoRoom : Stmt := inClass (top 20) 0
abbrev s_iBadCommand : Stmt := inClass (top 24) 0
abbrev s_iBadText : Stmt := inClass (top 4) 0
abbrev s_iNoStep : Stmt := inClass (top 15) 0
abbrev s_iTooMany : Stmt := inClass (top 23) 0
/-- the pen at p: its cells are ns, at most n draws are done -/
def PenAt (H : Hp) (p : Addr) (ns : List Int) (n : Nat) : Prop :=
  ∃ (c : Addr) (t g : Int), H p = some (.lst [.ref c, .int t, .int g]) ∧ H c = some (.lst (ns.map V.int)) ∧ c ≠ p ∧ 0 ≤ t ∧ t ≤ n
def spPen (K : PySem.W.Frag) : Sp := fun vs H Q _ => ∃ (a : Addr) (ns : List Int), vs = [.ref a] ∧
  SqL K H a (ns.map V.int) ∧ ns.length ≤ 63 ∧
  ∀ (p : Addr) (H' : Hp), H p = none → Same H H' → PenAt H' p ns 0 → Q (.ref p) H'
def spDraw : Sp := fun vs H Q _ => ∃ (p : Addr) (many : Int) (ns : List Int) (n : Nat),
  vs = [.ref p, .int many] ∧ PenAt H p ns n ∧ ns.length ≤ 63 ∧ 1 ≤ many ∧ many < 1000000000 ∧ n < 1000000 ∧
  ∀ (r : Int) (H' : Hp), 0 ≤ r → r < many → PenAt H' p ns (n + 1) → But p H H' → Q (.int r) H'
structure Txt (K : PySem.W.Frag) (mg : Str → Option Value) : Prop where
  nb : ∀ x ∈ blts, mg x = none
  d_pen : OwnD K mg "_law_pen" s_lpen ["_law_script"]
  d_draw : OwnD K mg "_law_draw" s_ldraw ["_law_pen_here", "_law_many"]
  d_pick : OwnD K mg "_law_pick" s_lpick ["_law_pen_here", "_law_some"]
  d_made : OwnD K mg "_law_made" s_lmade ["_law_x", "_law_y"]
  d_fields : OwnD K mg "_law_fields" s_lfields ["_law_error"]
  d_law : OwnD K mg "law" s_law ["_law_script"]
  er : ∀ x ∈ errs, ErrK K mg x.1 x.2
  no0 : PySem.W.excIn K (adr mg "Nothing") PySem.HandSPX.veTail "ValueError.__new__" = true
  mgH : mg "HeadError" = some (.ref (adr mg "HeadError"))
  kit : ∀ x ∈ enames, ∀ y ∈ enames, PySem.W.kitOne K (.ref (adr mg x)) (.ref (adr mg y)) = some (decide (x = y))
  kitH : ∀ x ∈ enames, PySem.W.kitOne K (.ref (adr mg x)) (.ref (adr mg "HeadError")) = some true
  kitV : ∀ x ∈ enames, PySem.W.kitOne K (.ref (adr mg x)) (.type "ValueError") = some true
  kitN : ∀ x ∈ enames, ∀ y ∈ ["LookupError", "ArithmeticError", "TypeError"], PySem.W.kitOne K (.ref (adr mg x)) (.type y) = some false
  i_BadName : IniK K mg "BadName" "BadName.__init__" s_iBadName
  i_BadLetter : IniK K mg "BadLetter" "BadLetter.__init__" s_iBadLetter
  i_BadAnswer : IniK K mg "BadAnswer" "BadAnswer.__init__" s_iBadAnswer
  i_BadNumber : IniK K mg "BadNumber" "BadNumber.__init__" s_iBadNumber
  i_BadWord : IniK K mg "BadWord" "BadWord.__init__" s_iBadWord
  i_NoState : IniK K mg "NoState" "NoState.__init__" s_iNoState
  i_NoCell : IniK K mg "NoCell" "NoCell.__init__" s_iNoCell
  i_NoText : IniK K mg "NoText" "NoText.__init__" s_iNoText
  i_Taken : IniK K mg "Taken" "Taken.__init__" s_iTaken
  i_BadConverter : IniK K mg "BadConverter" "BadConverter.__init__" s_iBadConverter
  i_BadGrowth : IniK K mg "BadGrowth" "BadGrowth.__init__" s_iBadGrowth
  i_BadPaper : IniK K mg "BadPaper" "BadPaper.__init__" s_iBadPaper
  i_BadArray : IniK K mg "BadArray" "BadArray.__init__" s_iBadArray
  i_BadDeed : IniK K mg "BadDeed" "BadDeed.__init__" s_iBadDeed
  i_BadLog : IniK K mg "BadLog" "BadLog.__init__" s_iBadLog
  i_NoTail : IniK K mg "NoTail" "NoTail.__init__" s_iNoTail
  i_RunOver : IniK K mg "RunOver" "RunOver.__init__" s_iRunOver
  i_NoRoom : IniK K mg "NoRoom" "NoRoom.__init__" s_iNoRoom
  i_BadCommand : IniK K mg "BadCommand" "BadCommand.__init__" s_iBadCommand
  i_BadText : IniK K mg "BadText" "BadText.__init__" s_iBadText
  i_NoStep : IniK K mg "NoStep" "NoStep.__init__" s_iNoStep
  i_TooMany : IniK K mg "TooMany" "TooMany.__init__" s_iTooMany
section
variable {P : Program} {w : World} {K : PySem.W.Frag} {mg : Str → Option Value} {base : Heap}
theorem Txt.er0 (T : Txt K mg) : ErrK K mg "Nothing" [] := T.er ("Nothing", []) (by decide)
theorem Txt.mgc (T : Txt K mg) (x : Str) (h : x ∈ ("HeadError" : Str) :: enames) : mg x = some (.ref (adr mg x)) := by
  rcases List.mem_cons.mp h with rfl | h
  · exact T.mgH
  · have e : enames = errs.map (·.1) := by decide
    rw [e] at h
    obtain ⟨p, hp, rfl⟩ := List.mem_map.mp h
    exact (T.er p hp).mgx
theorem mke_BadName (T : Txt K mg) : MkE P w K mg base "BadName" ["value"] := by
  have E : ErrK K mg "BadName" ["value"] := T.er ("BadName", ["value"]) (by decide)
  obtain ⟨fI, fd, M, F⟩ := T.i_BadName
  refine ⟨E.mgx, fI, fd, M, F.binds fun _ _ _ _ _ _ us hl => match us, hl with | [_, _], _ => rfl, ?_, ?_⟩
  · intro s u ws hl
    obtain ⟨oc, od, kV, doc, pm, an, cdv, ct, osl, rfl, _, _⟩ := F.ex
    match ws, hl with
    | [_], _ => exact BindsTo.of_eq rfl
  · exact ini1 E F ⟨rfl, rfl, rfl, by decide +kernel, rfl, by decide +kernel, by decide +kernel⟩ fun _ _ _ _ _ _ => pss_one (ps_ost (pv 0) (pv 1))
theorem mke_BadLetter (T : Txt K mg) : MkE P w K mg base "BadLetter" ["value"] := by
  have E : ErrK K mg "BadLetter" ["value"] := T.er ("BadLetter", ["value"]) (by decide)
  obtain ⟨fI, fd, M, F⟩ := T.i_BadLetter
  refine ⟨E.mgx, fI, fd, M, F.binds fun _ _ _ _ _ _ us hl => match us, hl with | [_, _], _ => rfl, ?_, ?_⟩
  · intro s u ws hl
    obtain ⟨oc, od, kV, doc, pm, an, cdv, ct, osl, rfl, _, _⟩ := F.ex
    match ws, hl with
    | [_], _ => exact BindsTo.of_eq rfl
  · exact ini1 E F ⟨rfl, rfl, rfl, by decide +kernel, rfl, by decide +kernel, by decide +kernel⟩ fun _ _ _ _ _ _ => pss_one (ps_ost (pv 0) (pv 1))
theorem mke_BadAnswer (T : Txt K mg) : MkE P w K mg base "BadAnswer" ["value"] := by
  have E : ErrK K mg "BadAnswer" ["value"] := T.er ("BadAnswer", ["value"]) (by decide)
  obtain ⟨fI, fd, M, F⟩ := T.i_BadAnswer
  refine ⟨E.mgx, fI, fd, M, F.binds fun _ _ _ _ _ _ us hl => match us, hl with | [_, _], _ => rfl, ?_, ?_⟩
  · intro s u ws hl
    obtain ⟨oc, od, kV, doc, pm, an, cdv, ct, osl, rfl, _, _⟩ := F.ex
    match ws, hl with
    | [_], _ => exact BindsTo.of_eq rfl
  · exact ini1 E F ⟨rfl, rfl, rfl, by decide +kernel, rfl, by decide +kernel, by decide +kernel⟩ fun _ _ _ _ _ _ => pss_one (ps_ost (pv 0) (pv 1))
theorem mke_BadNumber (T : Txt K mg) : MkE P w K mg base "BadNumber" ["value"] := by
  have E : ErrK K mg "BadNumber" ["value"] := T.er ("BadNumber", ["value"]) (by decide)
  obtain ⟨fI, fd, M, F⟩ := T.i_BadNumber
  refine ⟨E.mgx, fI, fd, M, F.binds fun _ _ _ _ _ _ us hl => match us, hl with | [_, _], _ => rfl, ?_, ?_⟩
  · intro s u ws hl
    obtain ⟨oc, od, kV, doc, pm, an, cdv, ct, osl, rfl, _, _⟩ := F.ex
    match ws, hl with
    | [_], _ => exact BindsTo.of_eq rfl
  · exact ini1 E F ⟨rfl, rfl, rfl, by decide +kernel, rfl, by decide +kernel, by decide +kernel⟩ fun _ _ _ _ _ _ => pss_one (ps_ost (pv 0) (pv 1))
theorem mke_BadWord (T : Txt K mg) : MkE P w K mg base "BadWord" ["value"] := by
  have E : ErrK K mg "BadWord" ["value"] := T.er ("BadWord", ["value"]) (by decide)
  obtain ⟨fI, fd, M, F⟩ := T.i_BadWord
  refine ⟨E.mgx, fI, fd, M, F.binds fun _ _ _ _ _ _ us hl => match us, hl with | [_, _], _ => rfl, ?_, ?_⟩
  · intro s u ws hl
    obtain ⟨oc, od, kV, doc, pm, an, cdv, ct, osl, rfl, _, _⟩ := F.ex
    match ws, hl with
    | [_], _ => exact BindsTo.of_eq rfl
  · exact ini1 E F ⟨rfl, rfl, rfl, by decide +kernel, rfl, by decide +kernel, by decide +kernel⟩ fun _ _ _ _ _ _ => pss_one (ps_ost (pv 0) (pv 1))
theorem mke_NoState (T : Txt K mg) : MkE P w K mg base "NoState" ["value"] := by
  have E : ErrK K mg "NoState" ["value"] := T.er ("NoState", ["value"]) (by decide)
  obtain ⟨fI, fd, M, F⟩ := T.i_NoState
  refine ⟨E.mgx, fI, fd, M, F.binds fun _ _ _ _ _ _ us hl => match us, hl with | [_, _], _ => rfl, ?_, ?_⟩
  · intro s u ws hl
    obtain ⟨oc, od, kV, doc, pm, an, cdv, ct, osl, rfl, _, _⟩ := F.ex
    match ws, hl with
    | [_], _ => exact BindsTo.of_eq rfl
  · exact ini1 E F ⟨rfl, rfl, rfl, by decide +kernel, rfl, by decide +kernel, by decide +kernel⟩ fun _ _ _ _ _ _ => pss_one (ps_ost (pv 0) (pv 1))
theorem mke_NoCell (T : Txt K mg) : MkE P w K mg base "NoCell" ["value"] := by
  have E : ErrK K mg "NoCell" ["value"] := T.er ("NoCell", ["value"]) (by decide)
  obtain ⟨fI, fd, M, F⟩ := T.i_NoCell
  refine ⟨E.mgx, fI, fd, M, F.binds fun _ _ _ _ _ _ us hl => match us, hl with | [_, _], _ => rfl, ?_, ?_⟩
  · intro s u ws hl
    obtain ⟨oc, od, kV, doc, pm, an, cdv, ct, osl, rfl, _, _⟩ := F.ex
    match ws, hl with
    | [_], _ => exact BindsTo.of_eq rfl
  · exact ini1 E F ⟨rfl, rfl, rfl, by decide +kernel, rfl, by decide +kernel, by decide +kernel⟩ fun _ _ _ _ _ _ => pss_one (ps_ost (pv 0) (pv 1))
theorem mke_NoText (T : Txt K mg) : MkE P w K mg base "NoText" ["value"] := by
  have E : ErrK K mg "NoText" ["value"] := T.er ("NoText", ["value"]) (by decide)
  obtain ⟨fI, fd, M, F⟩ := T.i_NoText
  refine ⟨E.mgx, fI, fd, M, F.binds fun _ _ _ _ _ _ us hl => match us, hl with | [_, _], _ => rfl, ?_, ?_⟩
  · intro s u ws hl
    obtain ⟨oc, od, kV, doc, pm, an, cdv, ct, osl, rfl, _, _⟩ := F.ex
    match ws, hl with
    | [_], _ => exact BindsTo.of_eq rfl
  · exact ini1 E F ⟨rfl, rfl, rfl, by decide +kernel, rfl, by decide +kernel, by decide +kernel⟩ fun _ _ _ _ _ _ => pss_one (ps_ost (pv 0) (pv 1))
theorem mke_Taken (T : Txt K mg) : MkE P w K mg base "Taken" ["value"] := by
  have E : ErrK K mg "Taken" ["value"] := T.er ("Taken", ["value"]) (by decide)
  obtain ⟨fI, fd, M, F⟩ := T.i_Taken
  refine ⟨E.mgx, fI, fd, M, F.binds fun _ _ _ _ _ _ us hl => match us, hl with | [_, _], _ => rfl, ?_, ?_⟩
  · intro s u ws hl
    obtain ⟨oc, od, kV, doc, pm, an, cdv, ct, osl, rfl, _, _⟩ := F.ex
    match ws, hl with
    | [_], _ => exact BindsTo.of_eq rfl
  · exact ini1 E F ⟨rfl, rfl, rfl, by decide +kernel, rfl, by decide +kernel, by decide +kernel⟩ fun _ _ _ _ _ _ => pss_one (ps_ost (pv 0) (pv 1))
theorem mke_BadConverter (T : Txt K mg) : MkE P w K mg base "BadConverter" ["part"] := by
  have E : ErrK K mg "BadConverter" ["part"] := T.er ("BadConverter", ["part"]) (by decide)
  obtain ⟨fI, fd, M, F⟩ := T.i_BadConverter
  refine ⟨E.mgx, fI, fd, M, F.binds fun _ _ _ _ _ _ us hl => match us, hl with | [_, _], _ => rfl, ?_, ?_⟩
  · intro s u ws hl
    obtain ⟨oc, od, kV, doc, pm, an, cdv, ct, osl, rfl, _, _⟩ := F.ex
    match ws, hl with
    | [_], _ => exact BindsTo.of_eq rfl
  · exact ini1 E F ⟨rfl, rfl, rfl, by decide +kernel, rfl, by decide +kernel, by decide +kernel⟩ fun _ _ _ _ _ _ => pss_one (ps_ost (pv 0) (pv 1))
theorem mke_BadGrowth (T : Txt K mg) : MkE P w K mg base "BadGrowth" ["part"] := by
  have E : ErrK K mg "BadGrowth" ["part"] := T.er ("BadGrowth", ["part"]) (by decide)
  obtain ⟨fI, fd, M, F⟩ := T.i_BadGrowth
  refine ⟨E.mgx, fI, fd, M, F.binds fun _ _ _ _ _ _ us hl => match us, hl with | [_, _], _ => rfl, ?_, ?_⟩
  · intro s u ws hl
    obtain ⟨oc, od, kV, doc, pm, an, cdv, ct, osl, rfl, _, _⟩ := F.ex
    match ws, hl with
    | [_], _ => exact BindsTo.of_eq rfl
  · exact ini1 E F ⟨rfl, rfl, rfl, by decide +kernel, rfl, by decide +kernel, by decide +kernel⟩ fun _ _ _ _ _ _ => pss_one (ps_ost (pv 0) (pv 1))
theorem mke_BadPaper (T : Txt K mg) : MkE P w K mg base "BadPaper" ["part"] := by
  have E : ErrK K mg "BadPaper" ["part"] := T.er ("BadPaper", ["part"]) (by decide)
  obtain ⟨fI, fd, M, F⟩ := T.i_BadPaper
  refine ⟨E.mgx, fI, fd, M, F.binds fun _ _ _ _ _ _ us hl => match us, hl with | [_, _], _ => rfl, ?_, ?_⟩
  · intro s u ws hl
    obtain ⟨oc, od, kV, doc, pm, an, cdv, ct, osl, rfl, _, _⟩ := F.ex
    match ws, hl with
    | [_], _ => exact BindsTo.of_eq rfl
  · exact ini1 E F ⟨rfl, rfl, rfl, by decide +kernel, rfl, by decide +kernel, by decide +kernel⟩ fun _ _ _ _ _ _ => pss_one (ps_ost (pv 0) (pv 1))
theorem mke_BadArray (T : Txt K mg) : MkE P w K mg base "BadArray" ["part"] := by
  have E : ErrK K mg "BadArray" ["part"] := T.er ("BadArray", ["part"]) (by decide)
  obtain ⟨fI, fd, M, F⟩ := T.i_BadArray
  refine ⟨E.mgx, fI, fd, M, F.binds fun _ _ _ _ _ _ us hl => match us, hl with | [_, _], _ => rfl, ?_, ?_⟩
  · intro s u ws hl
    obtain ⟨oc, od, kV, doc, pm, an, cdv, ct, osl, rfl, _, _⟩ := F.ex
    match ws, hl with
    | [_], _ => exact BindsTo.of_eq rfl
  · exact ini1 E F ⟨rfl, rfl, rfl, by decide +kernel, rfl, by decide +kernel, by decide +kernel⟩ fun _ _ _ _ _ _ => pss_one (ps_ost (pv 0) (pv 1))
theorem mke_BadDeed (T : Txt K mg) : MkE P w K mg base "BadDeed" ["part"] := by
  have E : ErrK K mg "BadDeed" ["part"] := T.er ("BadDeed", ["part"]) (by decide)
  obtain ⟨fI, fd, M, F⟩ := T.i_BadDeed
  refine ⟨E.mgx, fI, fd, M, F.binds fun _ _ _ _ _ _ us hl => match us, hl with | [_, _], _ => rfl, ?_, ?_⟩
  · intro s u ws hl
    obtain ⟨oc, od, kV, doc, pm, an, cdv, ct, osl, rfl, _, _⟩ := F.ex
    match ws, hl with
    | [_], _ => exact BindsTo.of_eq rfl
  · exact ini1 E F ⟨rfl, rfl, rfl, by decide +kernel, rfl, by decide +kernel, by decide +kernel⟩ fun _ _ _ _ _ _ => pss_one (ps_ost (pv 0) (pv 1))
theorem mke_BadLog (T : Txt K mg) : MkE P w K mg base "BadLog" ["at"] := by
  have E : ErrK K mg "BadLog" ["at"] := T.er ("BadLog", ["at"]) (by decide)
  obtain ⟨fI, fd, M, F⟩ := T.i_BadLog
  refine ⟨E.mgx, fI, fd, M, F.binds fun _ _ _ _ _ _ us hl => match us, hl with | [_, _], _ => rfl, ?_, ?_⟩
  · intro s u ws hl
    obtain ⟨oc, od, kV, doc, pm, an, cdv, ct, osl, rfl, _, _⟩ := F.ex
    match ws, hl with
    | [_], _ => exact BindsTo.of_eq rfl
  · exact ini1 E F ⟨rfl, rfl, rfl, by decide +kernel, rfl, by decide +kernel, by decide +kernel⟩ fun _ _ _ _ _ _ => pss_one (ps_ost (pv 0) (pv 1))
theorem mke_NoTail (T : Txt K mg) : MkE P w K mg base "NoTail" ["state"] := by
  have E : ErrK K mg "NoTail" ["state"] := T.er ("NoTail", ["state"]) (by decide)
  obtain ⟨fI, fd, M, F⟩ := T.i_NoTail
  refine ⟨E.mgx, fI, fd, M, F.binds fun _ _ _ _ _ _ us hl => match us, hl with | [_, _], _ => rfl, ?_, ?_⟩
  · intro s u ws hl
    obtain ⟨oc, od, kV, doc, pm, an, cdv, ct, osl, rfl, _, _⟩ := F.ex
    match ws, hl with
    | [_], _ => exact BindsTo.of_eq rfl
  · exact ini1 E F ⟨rfl, rfl, rfl, by decide +kernel, rfl, by decide +kernel, by decide +kernel⟩ fun _ _ _ _ _ _ => pss_one (ps_ost (pv 0) (pv 1))
theorem mke_RunOver (T : Txt K mg) : MkE P w K mg base "RunOver" ["cell"] := by
  have E : ErrK K mg "RunOver" ["cell"] := T.er ("RunOver", ["cell"]) (by decide)
  obtain ⟨fI, fd, M, F⟩ := T.i_RunOver
  refine ⟨E.mgx, fI, fd, M, F.binds fun _ _ _ _ _ _ us hl => match us, hl with | [_, _], _ => rfl, ?_, ?_⟩
  · intro s u ws hl
    obtain ⟨oc, od, kV, doc, pm, an, cdv, ct, osl, rfl, _, _⟩ := F.ex
    match ws, hl with
    | [_], _ => exact BindsTo.of_eq rfl
  · exact ini1 E F ⟨rfl, rfl, rfl, by decide +kernel, rfl, by decide +kernel, by decide +kernel⟩ fun _ _ _ _ _ _ => pss_one (ps_ost (pv 0) (pv 1))
theorem mke_NoRoom (T : Txt K mg) : MkE P w K mg base "NoRoom" ["cell"] := by
  have E : ErrK K mg "NoRoom" ["cell"] := T.er ("NoRoom", ["cell"]) (by decide)
  obtain ⟨fI, fd, M, F⟩ := T.i_NoRoom
  refine ⟨E.mgx, fI, fd, M, F.binds fun _ _ _ _ _ _ us hl => match us, hl with | [_, _], _ => rfl, ?_, ?_⟩
  · intro s u ws hl
    obtain ⟨oc, od, kV, doc, pm, an, cdv, ct, osl, rfl, _, _⟩ := F.ex
    match ws, hl with
    | [_], _ => exact BindsTo.of_eq rfl
  · exact ini1 E F ⟨rfl, rfl, rfl, by decide +kernel, rfl, by decide +kernel, by decide +kernel⟩ fun _ _ _ _ _ _ => pss_one (ps_ost (pv 0) (pv 1))
theorem mke_BadCommand (T : Txt K mg) : MkE P w K mg base "BadCommand" ["word"] := by
  have E : ErrK K mg "BadCommand" ["word"] := T.er ("BadCommand", ["word"]) (by decide)
  obtain ⟨fI, fd, M, F⟩ := T.i_BadCommand
  refine ⟨E.mgx, fI, fd, M, F.binds fun _ _ _ _ _ _ us hl => match us, hl with | [_, _], _ => rfl, ?_, ?_⟩
  · intro s u ws hl
    obtain ⟨oc, od, kV, doc, pm, an, cdv, ct, osl, rfl, _, _⟩ := F.ex
    match ws, hl with
    | [_], _ => exact BindsTo.of_eq rfl
  · exact ini1 E F ⟨rfl, rfl, rfl, by decide +kernel, rfl, by decide +kernel, by decide +kernel⟩ fun _ _ _ _ _ _ => pss_one (ps_ost (pv 0) (pv 1))
theorem mke_BadText (T : Txt K mg) : MkE P w K mg base "BadText" ["line", "word"] := by
  have E : ErrK K mg "BadText" ["line", "word"] := T.er ("BadText", ["line", "word"]) (by decide)
  obtain ⟨fI, fd, M, F⟩ := T.i_BadText
  refine ⟨E.mgx, fI, fd, M, F.binds fun _ _ _ _ _ _ us hl => match us, hl with | [_, _, _], _ => rfl, ?_, ?_⟩
  · intro s u ws hl
    obtain ⟨oc, od, kV, doc, pm, an, cdv, ct, osl, rfl, _, _⟩ := F.ex
    match ws, hl with
    | [_, _], _ => exact BindsTo.of_eq rfl
  · exact ini2 E F ⟨rfl, rfl, rfl, by decide +kernel, rfl, by decide +kernel, by decide +kernel⟩ fun _ _ _ _ _ _ => pss_cons (ps_ost (pv 0) (pv 1)) (pss_one (ps_ost (pv 0) (pv 2)))
theorem mke_NoStep (T : Txt K mg) : MkE P w K mg base "NoStep" ["at", "state"] := by
  have E : ErrK K mg "NoStep" ["at", "state"] := T.er ("NoStep", ["at", "state"]) (by decide)
  obtain ⟨fI, fd, M, F⟩ := T.i_NoStep
  refine ⟨E.mgx, fI, fd, M, F.binds fun _ _ _ _ _ _ us hl => match us, hl with | [_, _, _], _ => rfl, ?_, ?_⟩
  · intro s u ws hl
    obtain ⟨oc, od, kV, doc, pm, an, cdv, ct, osl, rfl, _, _⟩ := F.ex
    match ws, hl with
    | [_, _], _ => exact BindsTo.of_eq rfl
  · exact ini2 E F ⟨rfl, rfl, rfl, by decide +kernel, rfl, by decide +kernel, by decide +kernel⟩ fun _ _ _ _ _ _ => pss_cons (ps_ost (pv 0) (pv 1)) (pss_one (ps_ost (pv 0) (pv 2)))
theorem mke_TooMany (T : Txt K mg) : MkE P w K mg base "TooMany" ["what", "most"] := by
  have E : ErrK K mg "TooMany" ["what", "most"] := T.er ("TooMany", ["what", "most"]) (by decide)
  obtain ⟨fI, fd, M, F⟩ := T.i_TooMany
  refine ⟨E.mgx, fI, fd, M, F.binds fun _ _ _ _ _ _ us hl => match us, hl with | [_, _, _], _ => rfl, ?_, ?_⟩
  · intro s u ws hl
    obtain ⟨oc, od, kV, doc, pm, an, cdv, ct, osl, rfl, _, _⟩ := F.ex
    match ws, hl with
    | [_, _], _ => exact BindsTo.of_eq rfl
  · exact ini2 E F ⟨rfl, rfl, rfl, by decide +kernel, rfl, by decide +kernel, by decide +kernel⟩ fun _ _ _ _ _ _ => pss_cons (ps_ost (pv 0) (pv 1)) (pss_one (ps_ost (pv 0) (pv 2)))
theorem eqv_nil (ds : List PyData) : PyData.eqv (.list ds) (.list []) = ds.isEmpty := by
  cases ds <;> simp [PyData.eqv, PyData.eqvAll]
theorem shaped_ints (ns : List Int) : SeqAt.shaped (.list (ns.map PyData.int)) = true := by
  have h1 : ∀ l : List Int, PyData.canLayAll0 (l.map PyData.int) = true := by
    intro l
    induction l with
    | nil => simp [PyData.canLayAll0]
    | cons a l ih => simp [PyData.canLayAll0, PyData.canLay0, ih]
  have h2 : ∀ l : List Int, PyData.depthAll (l.map PyData.int) ≤ 1 := by
    intro l
    induction l with
    | nil => simp [PyData.depthAll]
    | cons a l ih => simp [PyData.depthAll, PyData.depth]; omega
  unfold SeqAt.shaped
  have := h2 ns
  simp [PyData.canLay0, PyData.depth, h1]
  omega
theorem kp_draw (T : Txt K mg) : Kp P w K mg base 1 "_law_draw" ["_law_pen_here", "_law_many"] spDraw := by
  refine T.d_draw.ok sc_ldraw (fun vs H Q E h => ?_) (fun f cdv A outer s H vs Q E hA hr h => ?_)
  · obtain ⟨p, m, ns, n, rfl, _⟩ := h
    rfl
  · obtain ⟨p, m, ns, n, rfl, ⟨c, t, g, hp, hc, ne, t0, t1⟩, hlen, m0, m1, hn, k⟩ := h
    have fin : ∀ (r t' g' : Int) (H' : Hp), 0 ≤ r → r < m → 0 ≤ t' → t' ≤ (n : Int) + 1 → H' p = some (.lst [.ref c, .int t', .int g']) →
        But p H H' → Q (.int r) H' := fun r t' g' H' r0 r1 a b e fr =>
      k r H' r0 r1 ⟨c, t', g', e, fr c ne _ hc, ne, a, by omega⟩ fr
    refine ⟨_, (pss_cons (ps_if (pt_cmpR op_gt (pe_ix ix_list (pv 0) (pe_int) (fun _ _ => rfl)) (pe_int) (nomark _))
 (pss_cons (ps_set (i := 2) sc_ldraw.nd rfl (Or.inl rfl) (pe_op op_modW (pe_callTy call_intI (by rfl) (T.nb _ (by decide)) (by decide +kernel) (pa_cons (pe_ix ix_list (pv 0) (pe_int) (fun _ _ => rfl)) pa_nil)) (pv 1)))
 (pss_cons (ps_asg (pe_op op_divW (pe_callTy call_intI (by rfl) (T.nb _ (by decide)) (by decide +kernel) (pa_cons (pe_ix ix_list (pv 0) (pe_int) (fun _ _ => rfl)) pa_nil)) (pv 1)) (pg_sub (pv 0) (pe_int) set_list))
 (pss_one (ps_ret (pv 2))))) pss_nil)
 (pss_cons (ps_set (i := 3) sc_ldraw.nd rfl (Or.inl rfl) (pe_ix ix_list (pv 0) (pe_int) (fun _ _ => rfl)))
 (pss_cons (ps_asg (pe_op op_add (pv 3) (pe_int)) (pg_sub (pv 0) (pe_int) set_list))
 (pss_cons (ps_set (i := 4) sc_ldraw.nd rfl (Or.inl rfl) (pe_op op_add (pe_op op_mulW' (pe_int) (pv 3)) (pe_int)))
 (pss_mid (ps_if (pt_cmpR (op_neD hr.units) (pe_ix ix_list (pv 0) (pe_int) (fun _ _ => rfl)) (pe_lst pa_nil) (nomark _))
 (pss_one (ps_set (i := 4) sc_ldraw.nd rfl (Or.inl rfl) (pe_ix ix_list (pe_ix ix_list (pv 0) (pe_int) (fun _ _ => rfl)) (pe_op op_modW (pe_callTy call_intI (by rfl) (T.nb _ (by decide)) (by decide +kernel) (pa_cons (pv 3) pa_nil)) (pe_callB call_len (by rfl) (T.nb _ (by decide)) PySem.boot_len (pa_cons (pe_ix ix_list (pv 0) (pe_int) (fun _ _ => rfl)) pa_nil))) (fun _ _ => rfl)))) pss_nil)
 (pss_mid (ps_if (PW.pt (pw_and (pt_cmpR op_lt (pv 3) (pe_callB call_len (by rfl) (T.nb _ (by decide)) PySem.boot_len (pa_cons (pe_ix ix_list (pv 0) (pe_int) (fun _ _ => rfl)) pa_nil)) (nomark _)) (pw_and1 (pt_cmpR op_ge (pe_callB call_abs (by rfl) (T.nb _ (by decide)) (by decide +kernel) (pa_cons (pv 4) pa_nil)) (pe_op op_pow (pe_int) (pe_int)) (nomark _)))))
 (pss_cons (ps_set (i := 5) sc_ldraw.nd rfl (Or.inl rfl) (pe_op op_add (pe_op op_mulW' (pe_int) (pe_op op_sub (pe_callB call_abs (by rfl) (T.nb _ (by decide)) (by decide +kernel) (pa_cons (pv 4) pa_nil)) (pe_op op_pow (pe_int) (pe_int)))) (pe_callTy call_intB (by rfl) (T.nb _ (by decide)) (by decide +kernel) (pa_cons (pe_cmpR op_lt (pv 4) (pe_int) (nomark _)) pa_nil))))
 (pss_cons (ps_asg (pe_op op_divW (pe_callTy call_intI (by rfl) (T.nb _ (by decide)) (by decide +kernel) (pa_cons (pv 5) pa_nil)) (pv 1)) (pg_sub (pv 0) (pe_int) set_list))
 (pss_one (ps_ret (pe_op op_modW (pe_callTy call_intI (by rfl) (T.nb _ (by decide)) (by decide +kernel) (pa_cons (pv 5) pa_nil)) (pv 1)))))) pss_nil)
 (pss_cons (ps_set (i := 6) sc_ldraw.nd rfl (Or.inl rfl) (pe_op op_modW (pe_callTy call_intI (by rfl) (T.nb _ (by decide)) (by decide +kernel) (pa_cons (pe_op op_powW (pe_op op_add (pe_op op_add (pe_op op_modW (pe_callTy call_intI (by rfl) (T.nb _ (by decide)) (by decide +kernel) (pa_cons (pv 4) pa_nil)) (pe_int)) (pe_op op_mulW' (pe_int) (pv 3))) (pe_int)) (pe_int)) pa_nil)) (pe_int)))
 (pss_cons (ps_set (i := 6) sc_ldraw.nd rfl (Or.inl rfl) (pe_op op_modW (pe_callTy call_intI (by rfl) (T.nb _ (by decide)) (by decide +kernel) (pa_cons (pe_op op_powW (pe_op op_add (pe_op op_add (pe_op op_mulW' (pv 6) (pe_op op_add (pe_op op_mulW' (pe_int) (pv 3)) (pe_int))) (pe_op op_mulW' (pe_op op_mulW' (pe_int) (pv 3)) (pv 3))) (pe_int)) (pe_int)) pa_nil)) (pe_int)))
 (pss_one (ps_ret (pe_op op_modW (pe_callTy call_intI (by rfl) (T.nb _ (by decide)) (by decide +kernel) (pa_cons (pe_op op_divW (pv 6) (pe_int)) pa_nil)) (pv 1)))))))))))), ?_⟩
    refine ⟨_, rfl, _, _, _, _, rfl, rfl, SqL.of (by walk_at "hp"), rfl, _, _, rfl, rfl, _, rfl, ?_⟩
    refine ite2 (fun c1 => ?_) (fun c1 => ?_)
    · -- a digit of a great cell
      refine ⟨_, rfl, _, _, _, _, rfl, rfl, SqL.of (by walk_at "hp"), rfl, _, rfl, _, rfl, _, _, rfl, rfl, by omega, fun r r0 r1 => ?_⟩
      refine ⟨_, rfl, _, _, _, _, rfl, rfl, SqL.of (by walk_at "hp"), rfl, _, rfl, _, rfl, _, _, rfl, rfl, by omega, by omega, fun q z _ _ _ => ?_⟩
      refine ⟨_, rfl, _, _, _, _, rfl, rfl, by walk_at "hp", rfl, _, rfl, ?_⟩
      exact fin r t q _ r0 r1 t0 (by omega) upd_same (fun b hb o e => upd_oth hb e)
    · refine ⟨_, rfl, _, _, _, _, rfl, rfl, SqL.of (by walk_at "hp"), rfl, ?_⟩
      refine ⟨_, rfl, _, _, rfl, rfl, _, rfl, _, _, _, _, rfl, rfl, by walk_at "hp", rfl, ?_⟩
      refine ⟨_, rfl, _, _, rfl, rfl, .inl (by constructor <;> decide), fun z hz => ?_⟩
      refine ⟨_, _, rfl, rfl, ?_⟩
      have hp1 : ∀ u : HO, upd H p u p = some u := fun u => upd_same
      have hc1 : ∀ u : HO, upd H p u c = some (.lst (ns.map V.int)) := fun u => upd_oth ne hc
      have fr1 : ∀ u : HO, But p H (upd H p u) := fun u b hb o e => upd_oth hb e
      -- behind the first cell's choice: some int
      let σ2 : Int → St := fun v => [some (.ref p), some (.int m), none, some (.int t), some (.int v), none, none]
      refine ⟨fun σ' H' => (∃ v, σ' = σ2 v) ∧ H' p = some (.lst [.ref c, .int (t + 1), .int g]) ∧ But p H H', ?_, ?_⟩
      · refine ⟨_, rfl, _, _, _, _, rfl, rfl, SqL.of (hp1 _), rfl, by decide, fun l hl => ?_⟩
        have hp2 : ∀ u : HO, upd (upd H p (.lst [.ref c, .int (t + 1), .int g])) l u p = some (.lst [.ref c, .int (t + 1), .int g]) :=
          fun u => upd_new hl (hp1 _)
        have hc2 : ∀ u : HO, upd (upd H p (.lst [.ref c, .int (t + 1), .int g])) l u c = some (.lst (ns.map V.int)) :=
          fun u => upd_new hl (hc1 _)
        have fr2 : ∀ u : HO, But p H (upd (upd H p (.lst [.ref c, .int (t + 1), .int g])) l u) := fun u b hb o e => upd_new hl (fr1 _ b hb o e)
        refine ⟨_, _, .lst (SqL.of (hc2 _)) (dp_ints ns), .lst (SqL.of upd_same) .nil, shaped_ints ns, rfl, _, rfl, ?_⟩
        rw [eqv_nil]
        refine ite2 (fun c2 => ?_) (fun c2 => ?_)
        · have hne : 0 < (ns.length : Int) := by
            cases ns with
            | nil => simp at c2
            | cons a l => simp
          refine ⟨_, rfl, _, _, _, _, rfl, rfl, SqL.of (hp2 _), rfl, _, rfl, _, rfl, _, rfl, _, _, _, _, rfl, rfl, SqL.of (hp2 _), rfl, ?_⟩
          refine ⟨_, _, rfl, len_lst (hc2 _), _, _, rfl, rfl, ?_, fun r r0 r1 => ?_⟩
          · rw [List.length_map]; exact hne
          · rw [List.length_map] at r1
            obtain ⟨x, hx⟩ := at_map r0 r1
            exact ⟨_, _, _, _, rfl, rfl, SqL.of (hc2 _), hx, ⟨x, rfl⟩, hp2 _, fr2 _⟩
        · exact ⟨⟨_, rfl⟩, hp2 _, fr2 _⟩
      · rintro σ' H' ⟨⟨v, rfl⟩, hp', fr'⟩
        have hc' : H' c = some (.lst (ns.map V.int)) := fr' c ne _ hc
        refine ⟨fun σ1 H1 => σ1 = σ2 v ∧ H1 p = some (.lst [.ref c, .int (t + 1), .int g]) ∧ But p H H1, ?_, ?_⟩
        · refine ⟨_, rfl, _, rfl, _, _, _, _, rfl, rfl, SqL.of hp', rfl, _, _, rfl, len_lst hc', _, _, rfl, rfl, _, rfl, ?_⟩
          refine ite2 (fun c3 => ?_) (fun c3 => iteF ⟨rfl, hp', fr'⟩)
          refine ⟨_, rfl, _, rfl, _, _, rfl, rfl, ⟨by decide, by decide, by decide⟩, _, _, rfl, rfl, _, rfl, ?_⟩
          refine ite2 (fun c4 => ?_) (fun c4 => ⟨rfl, hp', fr'⟩)
          refine ⟨_, rfl, _, rfl, _, _, rfl, rfl, ⟨by decide, by decide, by decide⟩, _, _, rfl, rfl, _, _, rfl, rfl, .inl (by constructor <;> decide), fun z1 hz1 => ?_⟩
          refine ⟨_, rfl, _, _, rfl, rfl, _, rfl, fun i i0 i1 => ⟨_, _, rfl, rfl, ?_⟩⟩
          refine ⟨_, rfl, _, rfl, _, rfl, _, _, rfl, rfl, by omega, by omega, fun q z2 _ _ _ => ?_⟩
          refine ⟨_, rfl, _, _, _, _, rfl, rfl, by walk_at "hp", rfl, ?_⟩
          refine ⟨_, rfl, _, rfl, _, rfl, _, _, rfl, rfl, by omega, fun r r0 r1 => ?_⟩
          exact fin r (t + 1) q _ r0 r1 (by omega) (by omega) upd_same (fun b hb o e => upd_oth hb (fr' b hb o e))
        · rintro σ1 H1 ⟨rfl, hp1, fr1⟩
          refine ⟨_, rfl, _, rfl, _, _, rfl, rfl, by decide, fun r r0 r1 => ?_⟩
          refine ⟨_, rfl, _, _, rfl, rfl, .inl (by constructor <;> decide), fun z1 hz1 => ?_⟩
          refine ⟨_, _, rfl, rfl, _, _, rfl, rfl, _, _, rfl, rfl, by decide, by decide, by omega, fun z2 => ?_⟩
          refine ⟨_, rfl, _, _, rfl, rfl, by decide, fun b b0 b1 => ?_⟩
          refine ⟨_, rfl, _, rfl, _, _, rfl, rfl, .inl (by constructor <;> decide), fun z3 hz3 => ?_⟩
          refine ⟨_, _, rfl, rfl, _, _, rfl, rfl, .inl (by constructor <;> omega), fun z4 hz4 => ?_⟩
          refine ⟨_, rfl, _, _, rfl, rfl, .inl (by constructor <;> decide), fun z5 hz5 => ?_⟩
          refine ⟨_, rfl, _, _, rfl, rfl, .inl (by constructor <;> omega), fun z6 hz6 => ?_⟩
          have z40 : 0 ≤ z4 ∧ z4 ≤ 2147483647 * 2000600 := by
            subst hz4
            have a1 : 0 ≤ z3 + 587 := by omega
            have a2 : z3 + 587 ≤ 2000600 := by omega
            exact ⟨Int.mul_nonneg b0 a1, Int.le_trans (Int.mul_le_mul_of_nonneg_right (by omega) a1) (Int.mul_le_mul_of_nonneg_left a2 (by decide))⟩
          have z60 : 0 ≤ z6 ∧ z6 ≤ 51664 * 1000000 * 1000000 := by
            subst hz6
            have a1 : 0 ≤ t := t0
            have a2 : t ≤ 1000000 := by omega
            have a3 : 0 ≤ z5 := by omega
            exact ⟨Int.mul_nonneg a3 a1, Int.le_trans (Int.mul_le_mul_of_nonneg_right (by omega) a1) (Int.mul_le_mul_of_nonneg_left a2 (by decide))⟩
          refine ⟨_, _, rfl, rfl, _, _, rfl, rfl, _, _, rfl, rfl, by decide, by decide, by omega, fun z7 => ?_⟩
          refine ⟨_, rfl, _, _, rfl, rfl, by decide, fun d d0 d1 => ?_⟩
          refine ⟨_, rfl, _, _, rfl, rfl, by decide, by decide, fun q z8 _ _ _ => ?_⟩
          refine ⟨_, rfl, _, rfl, _, _, rfl, rfl, by omega, fun r2 r20 r21 => ?_⟩
          exact fin r2 (t + 1) g _ r20 r21 (by omega) (by omega) hp1 fr1
end
end KK

namespace KK
open PySem L2
local macro_rules | `(tactic| walk_at "hp") => `(tactic| first
  | assumption
  | exact upd_same
  | (refine upd_new (by assumption) ?_; walk_at "hp")
  | (refine upd_oth (by first | assumption | (apply Ne.symm; assumption)) ?_; walk_at "hp"))
section
variable {P : Program} {w : World} {K : PySem.W.Frag} {mg : Str → Option Value} {base : Heap}
theorem kp_pen (T : Txt K mg) : Kp P w K mg base 1 "_law_pen" ["_law_script"] (spPen K) := by
  refine T.d_pen.ok sc_lpen (fun vs H Q E h => ?_) (fun f cdv A outer s H vs Q E hA hr h => ?_)
  · obtain ⟨a, ns, rfl, _⟩ := h
    rfl
  · obtain ⟨a, ns, rfl, hs, hlen, k⟩ := h
    refine ⟨_, (pss_one (ps_ret (pe_lst (pa_cons (pe_callTy call_list_of (by rfl) (T.nb _ (by decide)) (by decide +kernel) (pa_cons (pe_slice sl_list (pv 0) po_none (po_some (pe_int))) pa_nil)) (pa_cons (pe_int) (pa_cons (pe_int) pa_nil)))))), ?_⟩
    refine ⟨_, rfl, _, rfl, _, _, rfl, hs, fun q hq => ?_⟩
    refine ⟨_, _, rfl, .inl (SqL.of upd_same), fun c hc => ?_⟩
    refine ⟨(by show 3 ≤ sizeLine; decide), fun p hp => ?_⟩
    have e : cutV (ns.map V.int) none (some 63) = ns.map V.int := by
      have l : (ns.map V.int).length ≤ 63 := by rw [List.length_map]; exact hlen
      have q : cutV (ns.map V.int) none (some 63) = ((ns.map V.int).drop (HT.sIx (ns.map V.int).length 0 none)).take
          (HT.sIx (ns.map V.int).length (ns.map V.int).length (some ((63 : Nat) : Int)) - HT.sIx (ns.map V.int).length 0 none) := rfl
      rw [q, HT.sIx_nat, HT.sIx_none, List.drop_zero]
      exact List.take_of_length_le (by omega)
    have hH : H p = none := (Same.trans (Same.new hq) (Same.new hc)).free hp
    refine k p _ hH ((Same.new hq).trans ((Same.new hc).trans (Same.new hp))) ⟨c, 0, 0, upd_same, ?_, ?_, by omega, by omega⟩
    · refine upd_new hp ?_
      rw [upd_same, e]
    · intro z
      rw [z, upd_same] at hp
      cases hp
def spPick : Sp := fun vs H Q _ => ∃ (p l : Addr) (xs : List V) (ns : List Int) (n : Nat),
  vs = [.ref p, .ref l] ∧ PenAt H p ns n ∧ ns.length ≤ 63 ∧ H l = some (.lst xs) ∧ l ≠ p ∧ 0 < xs.length ∧
  xs.length < 1000000 ∧ n < 1000000 ∧
  ∀ (v : V) (H' : Hp), v ∈ xs → PenAt H' p ns (n + 1) → But p H H' → Q v H'
theorem kp_pick (T : Txt K mg) : Kp P w K mg base 2 "_law_pick" ["_law_pen_here", "_law_some"] spPick := by
  refine T.d_pick.ok sc_lpick (fun vs H Q E h => ?_) (fun f cdv A outer s H vs Q E hA hr h => ?_)
  · obtain ⟨p, l, xs, ns, n, rfl, _⟩ := h
    rfl
  · obtain ⟨p, l, xs, ns, n, rfl, hp, hlen, hl, ne, h0, h1, hn, k⟩ := h
    refine ⟨_, (pss_one (ps_ret (pe_ix ix_list (pv 1) (pe_kp (kp_draw T) hA hr (by rfl) (pa_cons (pv 0) (pa_cons (pe_callB call_len (by rfl) (T.nb _ (by decide)) PySem.boot_len (pa_cons (pv 1) pa_nil)) pa_nil))) (fun _ _ => rfl)))), ?_⟩
    refine ⟨_, rfl, _, rfl, _, rfl, _, _, rfl, len_lst hl, ?_⟩
    refine ⟨p, _, ns, n, rfl, hp, hlen, by omega, by omega, hn, fun r H' r0 r1 hp' hb => ?_⟩
    obtain ⟨x, hx, hm⟩ := at_in (xs := xs) r0 (by omega)
    exact ⟨_, _, _, _, rfl, rfl, SqL.of (hb l ne _ hl), hx, k x H' hm hp' hb⟩
/-- an error object of the class nm with the values xs -/
def EV (mg : Str → Option Value) (H : Hp) (e : Addr) (p : Str × List Str) (xs : List V) : Prop :=
  xs.length = p.2.length ∧ XV H e (adr mg p.1) (p.2.zip xs).reverse
theorem EV.same {H H' : Hp} {e : Addr} {p : Str × List Str} {xs : List V} (h : EV mg H e p xs) (s : Same H H') :
    EV mg H' e p xs := ⟨h.1, h.2.same s⟩
/-- isinstance(_law_error, C) as a test -/
def isT (K : PySem.W.Frag) (i : Nat) (c : V) : TT := tB (tCB (rIsv K) (tCons (tVar i) (tCons (tC c) tNil)))
theorem is_run {T : Txt K mg} {H : Hp} {e : Addr} {p : Str × List Str} {xs : List V} (hp : p ∈ errs)
    (he : EV mg H e p xs) {i : Nat} {σ : St} (hσ : σ[i]? = some (some (.ref e))) {c : V} {cv : Value} {b : Bool}
    (hc : ∀ u, RelV c u → u = cv) (hk : PySem.W.kitOne K (.ref (adr mg p.1)) cv = some b) {Q : Bool → Hp → Prop}
    (q : Q b H) : isT K i c σ H Q := by
  have X := (T.er p hp).X
  obtain ⟨_, he⟩ := he
  rcases he with ⟨_, h⟩ | ⟨dx, h, g⟩
  · exact ⟨_, hσ, e, _, none, c, cv, b, rfl, X, h, (fun _ z => nomatch z), hc, hk, _, rfl, q⟩
  · exact ⟨_, hσ, e, _, some dx, c, cv, b, rfl, X, h, (fun y z => ⟨_, by cases z; exact g⟩), hc, hk, _, rfl, q⟩
theorem rel_ref {a : Addr} (u : Value) (h : RelV (.ref a) u) : u = .ref a := h
theorem rel_ty {n : String} (u : Value) (h : RelV (.ty n) u) : u = .type n := h
/-- the fields that are read -/
def argsX (K : PySem.W.Frag) : List Str → TA
  | [] => tNil
  | f :: fs => tCons (tXv K f (tVar 0)) (argsX K fs)
def bodyF (K : PySem.W.Frag) (p : Str × List Str) : TS :=
  tDrop (tBM K "list" rAppend (tVar 1) (tCons (tTup (tCons (tC (.str p.1)) (tCons (tLst (argsX K p.2)) tNil))) tNil))
def fieldsT (K : PySem.W.Frag) (mg : Str → Option Value) : List (Str × List Str) → TS
  | [] => tRet (tVar 1)
  | p :: r => tSeq (tIfS (isT K 0 (.ref (adr mg p.1))) (bodyF K p) tNext) (fieldsT K mg r)
theorem argsX_run {H : Hp} {e dx C : Addr} {F : List (Str × V)} {σ : St} (X : XCl K C)
    (hσ : σ[0]? = some (some (.ref e))) (he : H e = some (exo e C (some dx))) (hd : H dx = some (exd dx F)) :
    ∀ (fs : List Str) (xs : List V) (Q : List V → Hp → Prop), xs.length = fs.length →
      (∀ f ∈ fs, PySem.W.findIn K (.ref C) f = some none) → (∀ p ∈ fs.zip xs, F.lookup p.1 = some p.2) → Q xs H →
      argsX K fs σ H Q
  | [], xs, Q, l, _, _, q => by
    cases xs with
    | nil => exact q
    | cons a b => cases l
  | f :: fs, xs, Q, l, hn, hl, q => by
    cases xs with
    | nil => cases l
    | cons v xs =>
      refine ⟨_, hσ, e, C, dx, F, v, rfl, X, hn f (by simp), he, hd, hl (f, v) (by simp), ?_⟩
      exact argsX_run X hσ he hd fs xs _ (by simpa using l) (fun g hg => hn g (by simp [hg]))
        (fun p hp => hl p (by simp [hp])) q
theorem look_ok {p : Str × List Str} (hp : p ∈ errs) {xs : List V} (l : xs.length = p.2.length) :
    ∀ q ∈ p.2.zip xs, ((p.2.zip xs).reverse).lookup q.1 = some q.2 := by
  have shape : ∀ p ∈ errs, p.2 = [] ∨ (∃ f, p.2 = [f]) ∨ ∃ f g, p.2 = [f, g] ∧ f ≠ g := by
    intro p hp
    have : p.2 ∈ errs.map (·.2) := List.mem_map_of_mem hp
    revert this
    generalize p.2 = fs
    intro h
    have h2 : fs ∈ ([["value"], ["part"], ["at"], ["state"], ["cell"], ["word"], ["line", "word"], ["at", "state"], ["what", "most"], []] : List (List Str)) := by
      revert h
      simp only [errs, List.map_cons, List.map_nil, List.mem_cons, List.not_mem_nil, or_false]
      intro h
      rcases h with h | h | h | h | h | h | h | h | h | h | h | h | h | h | h | h | h | h | h | h | h | h | h <;> simp [h]
    simp only [List.mem_cons, List.not_mem_nil, or_false] at h2
    rcases h2 with h | h | h | h | h | h | h | h | h | h
    · exact .inr (.inl ⟨_, h⟩)
    · exact .inr (.inl ⟨_, h⟩)
    · exact .inr (.inl ⟨_, h⟩)
    · exact .inr (.inl ⟨_, h⟩)
    · exact .inr (.inl ⟨_, h⟩)
    · exact .inr (.inl ⟨_, h⟩)
    · exact .inr (.inr ⟨_, _, h, by decide⟩)
    · exact .inr (.inr ⟨_, _, h, by decide⟩)
    · exact .inr (.inr ⟨_, _, h, by decide⟩)
    · exact .inl h
  intro q hq
  rcases shape p hp with e | ⟨f, e⟩ | ⟨f, g, e, ne⟩
  · rw [e] at hq
    cases hq
  · rw [e] at hq l ⊢
    match xs, l, hq with
    | [v], _, hq =>
      simp only [List.zip_cons_cons, List.zip_nil_left, List.mem_cons, List.not_mem_nil, or_false] at hq
      subst hq
      simp [List.lookup]
  · rw [e] at hq l ⊢
    match xs, l, hq with
    | [v, u], _, hq =>
      simp only [List.zip_cons_cons, List.zip_nil_left, List.mem_cons, List.not_mem_nil, or_false] at hq
      rcases hq with rfl | rfl
      · have e1 : (f == g) = false := by simpa using ne
        simp [List.lookup, e1]
      · simp [List.lookup]
def spFields (mg : Str → Option Value) : Sp := fun vs H Q _ => ∃ (e : Addr) (p : Str × List Str) (xs : List V),
  vs = [.ref e] ∧ p ∈ errs ∧ EV mg H e p xs ∧
  ∀ (l t v : Addr) (H' : Hp), Same H H' → H' l = some (.lst [.ref t]) → H' t = some (.tup [.str p.1, .ref v]) →
    H' v = some (.lst xs) → Q (.ref l) H'
theorem bodyF_run (T : Txt K mg) {H : Hp} {e l : Addr} {p : Str × List Str} {xs : List V} (hp : p ∈ errs)
    (he : EV mg H e p xs) (hl : H l = some (.lst [])) {D : Ends}
    (k : ∀ (t v : Addr) (H' : Hp), (∀ b, b ≠ l → ∀ o, H b = some o → H' b = some o) → H' l = some (.lst [.ref t]) →
      H' t = some (.tup [.str p.1, .ref v]) → H' v = some (.lst xs) → D.nx [some (.ref e), some (.ref l)] H') :
    bodyF K p D [some (.ref e), some (.ref l)] H := by
  refine ⟨_, rfl, .inl ⟨rfl, _, SqL.of hl⟩, ?_⟩
  have X := (T.er p hp).X
  have na := (T.er p hp).na
  obtain ⟨len, he⟩ := he
  have go : ∀ H2 : Hp, H2 = H → argsX K p.2 [some (.ref e), some (.ref l)] H2 (fun ws H3 => ws.length ≤ sizeLine ∧
      ∀ v, H3 v = none → 2 ≤ sizeLine ∧ ∀ t, upd H3 v (.lst ws) t = none →
        rAppend (.ref l) [.ref t] (upd (upd H3 v (.lst ws)) t (.tup [.str p.1, .ref v])) (fun _ H4 => D.nx [some (.ref e), some (.ref l)] H4)) := by
    rintro H2 rfl
    have fin : xs.length ≤ sizeLine ∧ ∀ v, H2 v = none → 2 ≤ sizeLine ∧ ∀ t, upd H2 v (.lst xs) t = none →
        rAppend (.ref l) [.ref t] (upd (upd H2 v (.lst xs)) t (.tup [.str p.1, .ref v])) (fun _ H4 => D.nx [some (.ref e), some (.ref l)] H4) := by
      have len2 : xs.length ≤ 2 := by
        have : ∀ p ∈ errs, p.2.length ≤ 2 := by decide
        have := this p hp
        omega
      refine ⟨Nat.le_trans len2 (by decide), fun v hv => ⟨by decide, fun t ht => ?_⟩⟩
      have hl2 : (upd (upd H2 v (.lst xs)) t (.tup [.str p.1, .ref v])) l = some (.lst []) := upd_new ht (upd_new hv hl)
      refine ⟨l, _, _, rfl, rfl, hl2, by decide, ?_⟩
      have nvl : v ≠ l := (ne_of_none hl hv).symm
      have ntl : t ≠ l := (ne_of_none (upd_new hv hl) ht).symm
      refine k t v _ (fun b hb o q => upd_oth hb (upd_new ht (upd_new hv q))) upd_same ?_ ?_
      · exact (upd_ne ntl).trans upd_same
      · exact (upd_ne nvl).trans (upd_new ht upd_same)
    rcases he with ⟨e0, h⟩ | ⟨dx, h, g⟩
    · have z : p.2 = [] := by
        have : (p.2.zip xs).length = 0 := by
          have := congrArg List.length e0
          simpa using this
        cases q : p.2 with
        | nil => rfl
        | cons a b =>
          rw [q] at this len
          cases xs with
          | nil => cases len
          | cons c d => simp at this
      have zx : xs = [] := by
        rw [z] at len
        exact List.eq_nil_of_length_eq_zero len
      rw [z]
      subst zx
      exact fin
    · exact argsX_run X rfl h g p.2 xs _ len na (look_ok hp len) fin
  exact go H rfl
theorem fields_pass (T : Txt K mg) {H : Hp} {e l : Addr} {p : Str × List Str} {xs : List V} (hp : p ∈ errs)
    (he : EV mg H e p xs) {D : Ends} (k : D.rt (.ref l) H) :
    ∀ r : List (Str × List Str), (∀ q ∈ r, q ∈ errs ∧ q.1 ≠ p.1) → fieldsT K mg r D [some (.ref e), some (.ref l)] H
  | [], _ => ⟨_, rfl, k⟩
  | q :: r, h => by
    obtain ⟨h1, h2⟩ := h q List.mem_cons_self
    have m1 : p.1 ∈ enames := by
      have e : enames = errs.map (·.1) := by decide
      rw [e]
      exact List.mem_map_of_mem hp
    have m2 : q.1 ∈ enames := by
      have e : enames = errs.map (·.1) := by decide
      rw [e]
      exact List.mem_map_of_mem h1
    refine is_run (T := T) hp he rfl rel_ref (T.kit _ m1 _ m2) ?_
    rw [decide_eq_false (fun z => h2 z.symm)]
    exact iteF (fields_pass T hp he k r fun q hq => h q (List.mem_cons_of_mem _ hq))
theorem fields_run (T : Txt K mg) {H : Hp} {e l : Addr} {p : Str × List Str} {xs : List V} (hp : p ∈ errs)
    (he : EV mg H e p xs) (hl : H l = some (.lst [])) {D : Ends}
    (k : ∀ (t v : Addr) (H' : Hp), (∀ b, b ≠ l → ∀ o, H b = some o → H' b = some o) → H' l = some (.lst [.ref t]) →
      H' t = some (.tup [.str p.1, .ref v]) → H' v = some (.lst xs) → D.rt (.ref l) H') :
    ∀ r : List (Str × List Str), (∀ q ∈ r, q ∈ errs) → (r.map (·.1)).Nodup → p ∈ r →
      fieldsT K mg r D [some (.ref e), some (.ref l)] H
  | [], _, _, h => nomatch h
  | q :: r, h, nd, hm => by
    have h1 := h q List.mem_cons_self
    have m1 : p.1 ∈ enames := by
      have e : enames = errs.map (·.1) := by decide
      rw [e]
      exact List.mem_map_of_mem hp
    have m2 : q.1 ∈ enames := by
      have e : enames = errs.map (·.1) := by decide
      rw [e]
      exact List.mem_map_of_mem h1
    have nd2 := List.nodup_cons.mp nd
    refine is_run (T := T) hp he rfl rel_ref (T.kit _ m1 _ m2) ?_
    by_cases z : p = q
    · subst z
      rw [decide_eq_true rfl]
      refine iteT (bodyF_run T hp he hl fun t v H' kb k1 k2 k3 => ?_)
      have le : e ≠ l := by
        intro y
        rw [y] at he
        rcases he.2 with ⟨_, g⟩ | ⟨_, g, _⟩
        · rw [hl] at g
          cases (show HO.lst [] = HO.ext _ from Option.some.inj g)
        · rw [hl] at g
          cases (show HO.lst [] = HO.ext _ from Option.some.inj g)
      have he' : EV mg H' e p xs := by
        refine ⟨he.1, ?_⟩
        rcases he.2 with ⟨g0, g⟩ | ⟨dx, g, g2⟩
        · exact .inl ⟨g0, kb e le _ g⟩
        · refine .inr ⟨dx, kb e le _ g, kb dx (fun y => ?_) _ g2⟩
          rw [y, hl] at g2
          cases (show HO.lst [] = HO.ext _ from Option.some.inj g2)
      exact fields_pass T hp he' (k t v H' kb k1 k2 k3) r fun q hq => ⟨h q (List.mem_cons_of_mem _ hq), fun y =>
        nd2.1 (List.mem_map.mpr ⟨_, hq, y⟩)⟩
    · have hr : p ∈ r := by
        rcases List.mem_cons.mp hm with y | y
        · exact absurd y z
        · exact y
      have ne : p.1 ≠ q.1 := fun y => nd2.1 (List.mem_map.mpr ⟨_, hr, y⟩)
      rw [decide_eq_false ne]
      exact iteF (fields_run T hp he hl k r (fun q hq => h q (List.mem_cons_of_mem _ hq)) nd2.2 hr)
theorem kp_fields (T : Txt K mg) : Kp P w K mg base 1 "_law_fields" ["_law_error"] (spFields mg) := by
  refine T.d_fields.ok sc_lfields (fun vs H Q E h => ?_) (fun f cdv A outer s H vs Q E hA hr h => ?_)
  · obtain ⟨e, p, xs, rfl, _⟩ := h
    rfl
  · obtain ⟨e, p, xs, rfl, hp, he, k⟩ := h
    refine ⟨_, (pss_cons (ps_set (i := 1) sc_lfields.nd rfl (Or.inl rfl) (pe_lst pa_nil))
 (pss_cons (ps_if (pt_val (pe_callB call_isv (by rfl) (T.nb _ (by decide)) (by decide +kernel) (pa_cons (pv 0) (pa_cons (pe_glob (v := .ref (adr mg "BadName")) rfl (T.mgc _ (by decide)) rfl) pa_nil))))
 (pss_one (ps_expr (pe_bm PySem.F.plainAttrs_list PySem.F.slot_list_append PySem.F.type_list_append mt_append (pv 1) (pa_cons (pe_tup (pa_cons (pe_str) (pa_cons (pe_lst (pa_cons (pe_xv (pv 0)) pa_nil)) pa_nil))) pa_nil)))) pss_nil)
 (pss_cons (ps_if (pt_val (pe_callB call_isv (by rfl) (T.nb _ (by decide)) (by decide +kernel) (pa_cons (pv 0) (pa_cons (pe_glob (v := .ref (adr mg "BadLetter")) rfl (T.mgc _ (by decide)) rfl) pa_nil))))
 (pss_one (ps_expr (pe_bm PySem.F.plainAttrs_list PySem.F.slot_list_append PySem.F.type_list_append mt_append (pv 1) (pa_cons (pe_tup (pa_cons (pe_str) (pa_cons (pe_lst (pa_cons (pe_xv (pv 0)) pa_nil)) pa_nil))) pa_nil)))) pss_nil)
 (pss_cons (ps_if (pt_val (pe_callB call_isv (by rfl) (T.nb _ (by decide)) (by decide +kernel) (pa_cons (pv 0) (pa_cons (pe_glob (v := .ref (adr mg "BadAnswer")) rfl (T.mgc _ (by decide)) rfl) pa_nil))))
 (pss_one (ps_expr (pe_bm PySem.F.plainAttrs_list PySem.F.slot_list_append PySem.F.type_list_append mt_append (pv 1) (pa_cons (pe_tup (pa_cons (pe_str) (pa_cons (pe_lst (pa_cons (pe_xv (pv 0)) pa_nil)) pa_nil))) pa_nil)))) pss_nil)
 (pss_cons (ps_if (pt_val (pe_callB call_isv (by rfl) (T.nb _ (by decide)) (by decide +kernel) (pa_cons (pv 0) (pa_cons (pe_glob (v := .ref (adr mg "BadNumber")) rfl (T.mgc _ (by decide)) rfl) pa_nil))))
 (pss_one (ps_expr (pe_bm PySem.F.plainAttrs_list PySem.F.slot_list_append PySem.F.type_list_append mt_append (pv 1) (pa_cons (pe_tup (pa_cons (pe_str) (pa_cons (pe_lst (pa_cons (pe_xv (pv 0)) pa_nil)) pa_nil))) pa_nil)))) pss_nil)
 (pss_cons (ps_if (pt_val (pe_callB call_isv (by rfl) (T.nb _ (by decide)) (by decide +kernel) (pa_cons (pv 0) (pa_cons (pe_glob (v := .ref (adr mg "BadWord")) rfl (T.mgc _ (by decide)) rfl) pa_nil))))
 (pss_one (ps_expr (pe_bm PySem.F.plainAttrs_list PySem.F.slot_list_append PySem.F.type_list_append mt_append (pv 1) (pa_cons (pe_tup (pa_cons (pe_str) (pa_cons (pe_lst (pa_cons (pe_xv (pv 0)) pa_nil)) pa_nil))) pa_nil)))) pss_nil)
 (pss_cons (ps_if (pt_val (pe_callB call_isv (by rfl) (T.nb _ (by decide)) (by decide +kernel) (pa_cons (pv 0) (pa_cons (pe_glob (v := .ref (adr mg "NoState")) rfl (T.mgc _ (by decide)) rfl) pa_nil))))
 (pss_one (ps_expr (pe_bm PySem.F.plainAttrs_list PySem.F.slot_list_append PySem.F.type_list_append mt_append (pv 1) (pa_cons (pe_tup (pa_cons (pe_str) (pa_cons (pe_lst (pa_cons (pe_xv (pv 0)) pa_nil)) pa_nil))) pa_nil)))) pss_nil)
 (pss_cons (ps_if (pt_val (pe_callB call_isv (by rfl) (T.nb _ (by decide)) (by decide +kernel) (pa_cons (pv 0) (pa_cons (pe_glob (v := .ref (adr mg "NoCell")) rfl (T.mgc _ (by decide)) rfl) pa_nil))))
 (pss_one (ps_expr (pe_bm PySem.F.plainAttrs_list PySem.F.slot_list_append PySem.F.type_list_append mt_append (pv 1) (pa_cons (pe_tup (pa_cons (pe_str) (pa_cons (pe_lst (pa_cons (pe_xv (pv 0)) pa_nil)) pa_nil))) pa_nil)))) pss_nil)
 (pss_cons (ps_if (pt_val (pe_callB call_isv (by rfl) (T.nb _ (by decide)) (by decide +kernel) (pa_cons (pv 0) (pa_cons (pe_glob (v := .ref (adr mg "NoText")) rfl (T.mgc _ (by decide)) rfl) pa_nil))))
 (pss_one (ps_expr (pe_bm PySem.F.plainAttrs_list PySem.F.slot_list_append PySem.F.type_list_append mt_append (pv 1) (pa_cons (pe_tup (pa_cons (pe_str) (pa_cons (pe_lst (pa_cons (pe_xv (pv 0)) pa_nil)) pa_nil))) pa_nil)))) pss_nil)
 (pss_cons (ps_if (pt_val (pe_callB call_isv (by rfl) (T.nb _ (by decide)) (by decide +kernel) (pa_cons (pv 0) (pa_cons (pe_glob (v := .ref (adr mg "Taken")) rfl (T.mgc _ (by decide)) rfl) pa_nil))))
 (pss_one (ps_expr (pe_bm PySem.F.plainAttrs_list PySem.F.slot_list_append PySem.F.type_list_append mt_append (pv 1) (pa_cons (pe_tup (pa_cons (pe_str) (pa_cons (pe_lst (pa_cons (pe_xv (pv 0)) pa_nil)) pa_nil))) pa_nil)))) pss_nil)
 (pss_cons (ps_if (pt_val (pe_callB call_isv (by rfl) (T.nb _ (by decide)) (by decide +kernel) (pa_cons (pv 0) (pa_cons (pe_glob (v := .ref (adr mg "BadConverter")) rfl (T.mgc _ (by decide)) rfl) pa_nil))))
 (pss_one (ps_expr (pe_bm PySem.F.plainAttrs_list PySem.F.slot_list_append PySem.F.type_list_append mt_append (pv 1) (pa_cons (pe_tup (pa_cons (pe_str) (pa_cons (pe_lst (pa_cons (pe_xv (pv 0)) pa_nil)) pa_nil))) pa_nil)))) pss_nil)
 (pss_cons (ps_if (pt_val (pe_callB call_isv (by rfl) (T.nb _ (by decide)) (by decide +kernel) (pa_cons (pv 0) (pa_cons (pe_glob (v := .ref (adr mg "BadGrowth")) rfl (T.mgc _ (by decide)) rfl) pa_nil))))
 (pss_one (ps_expr (pe_bm PySem.F.plainAttrs_list PySem.F.slot_list_append PySem.F.type_list_append mt_append (pv 1) (pa_cons (pe_tup (pa_cons (pe_str) (pa_cons (pe_lst (pa_cons (pe_xv (pv 0)) pa_nil)) pa_nil))) pa_nil)))) pss_nil)
 (pss_cons (ps_if (pt_val (pe_callB call_isv (by rfl) (T.nb _ (by decide)) (by decide +kernel) (pa_cons (pv 0) (pa_cons (pe_glob (v := .ref (adr mg "BadPaper")) rfl (T.mgc _ (by decide)) rfl) pa_nil))))
 (pss_one (ps_expr (pe_bm PySem.F.plainAttrs_list PySem.F.slot_list_append PySem.F.type_list_append mt_append (pv 1) (pa_cons (pe_tup (pa_cons (pe_str) (pa_cons (pe_lst (pa_cons (pe_xv (pv 0)) pa_nil)) pa_nil))) pa_nil)))) pss_nil)
 (pss_cons (ps_if (pt_val (pe_callB call_isv (by rfl) (T.nb _ (by decide)) (by decide +kernel) (pa_cons (pv 0) (pa_cons (pe_glob (v := .ref (adr mg "BadArray")) rfl (T.mgc _ (by decide)) rfl) pa_nil))))
 (pss_one (ps_expr (pe_bm PySem.F.plainAttrs_list PySem.F.slot_list_append PySem.F.type_list_append mt_append (pv 1) (pa_cons (pe_tup (pa_cons (pe_str) (pa_cons (pe_lst (pa_cons (pe_xv (pv 0)) pa_nil)) pa_nil))) pa_nil)))) pss_nil)
 (pss_cons (ps_if (pt_val (pe_callB call_isv (by rfl) (T.nb _ (by decide)) (by decide +kernel) (pa_cons (pv 0) (pa_cons (pe_glob (v := .ref (adr mg "BadDeed")) rfl (T.mgc _ (by decide)) rfl) pa_nil))))
 (pss_one (ps_expr (pe_bm PySem.F.plainAttrs_list PySem.F.slot_list_append PySem.F.type_list_append mt_append (pv 1) (pa_cons (pe_tup (pa_cons (pe_str) (pa_cons (pe_lst (pa_cons (pe_xv (pv 0)) pa_nil)) pa_nil))) pa_nil)))) pss_nil)
 (pss_cons (ps_if (pt_val (pe_callB call_isv (by rfl) (T.nb _ (by decide)) (by decide +kernel) (pa_cons (pv 0) (pa_cons (pe_glob (v := .ref (adr mg "BadLog")) rfl (T.mgc _ (by decide)) rfl) pa_nil))))
 (pss_one (ps_expr (pe_bm PySem.F.plainAttrs_list PySem.F.slot_list_append PySem.F.type_list_append mt_append (pv 1) (pa_cons (pe_tup (pa_cons (pe_str) (pa_cons (pe_lst (pa_cons (pe_xv (pv 0)) pa_nil)) pa_nil))) pa_nil)))) pss_nil)
 (pss_cons (ps_if (pt_val (pe_callB call_isv (by rfl) (T.nb _ (by decide)) (by decide +kernel) (pa_cons (pv 0) (pa_cons (pe_glob (v := .ref (adr mg "NoTail")) rfl (T.mgc _ (by decide)) rfl) pa_nil))))
 (pss_one (ps_expr (pe_bm PySem.F.plainAttrs_list PySem.F.slot_list_append PySem.F.type_list_append mt_append (pv 1) (pa_cons (pe_tup (pa_cons (pe_str) (pa_cons (pe_lst (pa_cons (pe_xv (pv 0)) pa_nil)) pa_nil))) pa_nil)))) pss_nil)
 (pss_cons (ps_if (pt_val (pe_callB call_isv (by rfl) (T.nb _ (by decide)) (by decide +kernel) (pa_cons (pv 0) (pa_cons (pe_glob (v := .ref (adr mg "RunOver")) rfl (T.mgc _ (by decide)) rfl) pa_nil))))
 (pss_one (ps_expr (pe_bm PySem.F.plainAttrs_list PySem.F.slot_list_append PySem.F.type_list_append mt_append (pv 1) (pa_cons (pe_tup (pa_cons (pe_str) (pa_cons (pe_lst (pa_cons (pe_xv (pv 0)) pa_nil)) pa_nil))) pa_nil)))) pss_nil)
 (pss_cons (ps_if (pt_val (pe_callB call_isv (by rfl) (T.nb _ (by decide)) (by decide +kernel) (pa_cons (pv 0) (pa_cons (pe_glob (v := .ref (adr mg "NoRoom")) rfl (T.mgc _ (by decide)) rfl) pa_nil))))
 (pss_one (ps_expr (pe_bm PySem.F.plainAttrs_list PySem.F.slot_list_append PySem.F.type_list_append mt_append (pv 1) (pa_cons (pe_tup (pa_cons (pe_str) (pa_cons (pe_lst (pa_cons (pe_xv (pv 0)) pa_nil)) pa_nil))) pa_nil)))) pss_nil)
 (pss_cons (ps_if (pt_val (pe_callB call_isv (by rfl) (T.nb _ (by decide)) (by decide +kernel) (pa_cons (pv 0) (pa_cons (pe_glob (v := .ref (adr mg "BadCommand")) rfl (T.mgc _ (by decide)) rfl) pa_nil))))
 (pss_one (ps_expr (pe_bm PySem.F.plainAttrs_list PySem.F.slot_list_append PySem.F.type_list_append mt_append (pv 1) (pa_cons (pe_tup (pa_cons (pe_str) (pa_cons (pe_lst (pa_cons (pe_xv (pv 0)) pa_nil)) pa_nil))) pa_nil)))) pss_nil)
 (pss_cons (ps_if (pt_val (pe_callB call_isv (by rfl) (T.nb _ (by decide)) (by decide +kernel) (pa_cons (pv 0) (pa_cons (pe_glob (v := .ref (adr mg "BadText")) rfl (T.mgc _ (by decide)) rfl) pa_nil))))
 (pss_one (ps_expr (pe_bm PySem.F.plainAttrs_list PySem.F.slot_list_append PySem.F.type_list_append mt_append (pv 1) (pa_cons (pe_tup (pa_cons (pe_str) (pa_cons (pe_lst (pa_cons (pe_xv (pv 0)) (pa_cons (pe_xv (pv 0)) pa_nil))) pa_nil))) pa_nil)))) pss_nil)
 (pss_cons (ps_if (pt_val (pe_callB call_isv (by rfl) (T.nb _ (by decide)) (by decide +kernel) (pa_cons (pv 0) (pa_cons (pe_glob (v := .ref (adr mg "NoStep")) rfl (T.mgc _ (by decide)) rfl) pa_nil))))
 (pss_one (ps_expr (pe_bm PySem.F.plainAttrs_list PySem.F.slot_list_append PySem.F.type_list_append mt_append (pv 1) (pa_cons (pe_tup (pa_cons (pe_str) (pa_cons (pe_lst (pa_cons (pe_xv (pv 0)) (pa_cons (pe_xv (pv 0)) pa_nil))) pa_nil))) pa_nil)))) pss_nil)
 (pss_cons (ps_if (pt_val (pe_callB call_isv (by rfl) (T.nb _ (by decide)) (by decide +kernel) (pa_cons (pv 0) (pa_cons (pe_glob (v := .ref (adr mg "TooMany")) rfl (T.mgc _ (by decide)) rfl) pa_nil))))
 (pss_one (ps_expr (pe_bm PySem.F.plainAttrs_list PySem.F.slot_list_append PySem.F.type_list_append mt_append (pv 1) (pa_cons (pe_tup (pa_cons (pe_str) (pa_cons (pe_lst (pa_cons (pe_xv (pv 0)) (pa_cons (pe_xv (pv 0)) pa_nil))) pa_nil))) pa_nil)))) pss_nil)
 (pss_cons (ps_if (pt_val (pe_callB call_isv (by rfl) (T.nb _ (by decide)) (by decide +kernel) (pa_cons (pv 0) (pa_cons (pe_glob (v := .ref (adr mg "Nothing")) rfl (T.mgc _ (by decide)) rfl) pa_nil))))
 (pss_one (ps_expr (pe_bm PySem.F.plainAttrs_list PySem.F.slot_list_append PySem.F.type_list_append mt_append (pv 1) (pa_cons (pe_tup (pa_cons (pe_str) (pa_cons (pe_lst pa_nil) pa_nil))) pa_nil)))) pss_nil)
 (pss_one (ps_ret (pv 1))))))))))))))))))))))))))), ?_⟩
    refine ⟨by decide, fun l hl => ?_⟩
    have he1 := he.same (Same.new (u := .lst []) hl)
    exact fields_run T (l := l) hp he1 upd_same (D := { nx := fun _ H' => Q .non H', rt := Q }) (fun t v H' kb k1 k2 k3 =>
      k l t v H' (fun b o q => kb b (ne_of_none q hl) o (upd_new hl q)) k1 k2 k3) errs (fun q hq => hq) (by decide) hp
/-- the i-th row of what is made: two objects of the class and its name -/
def Row (mg : Str → Option Value) (H : Hp) (x y : V) (p : Str × List Str) (t : Addr) : Prop :=
  ∃ e1 e2 : Addr, H t = some (.tup [.ref e1, .ref e2, .str p.1]) ∧ EV mg H e1 p ([x, y].take p.2.length) ∧
    EV mg H e2 p ([x, y].take p.2.length)
theorem Row.same {H H' : Hp} {x y : V} {p : Str × List Str} {t : Addr} (h : Row mg H x y p t) (s : Same H H') :
    Row mg H' x y p t := by
  obtain ⟨e1, e2, a, b, c⟩ := h
  exact ⟨e1, e2, s _ _ a, b.same s, c.same s⟩
def Rows (mg : Str → Option Value) (H : Hp) (x y : V) : List (Str × List Str) → List Addr → Prop
  | [], [] => True
  | p :: r, t :: ts => Row mg H x y p t ∧ Rows mg H x y r ts
  | _, _ => False
theorem Rows.same {H H' : Hp} {x y : V} (s : Same H H') : ∀ {r : List (Str × List Str)} {ts : List Addr},
    Rows mg H x y r ts → Rows mg H' x y r ts
  | [], [], _ => trivial
  | _ :: _, _ :: _, ⟨a, b⟩ => ⟨a.same s, Rows.same s b⟩
  | [], _ :: _, h => h
  | _ :: _, [], h => h
def argP : List Str → TA
  | [] => tNil
  | [_] => tCons (tVar 0) tNil
  | _ => tCons (tVar 0) (tCons (tVar 1) tNil)
def argK : List Str → TA
  | [] => tNil
  | [_] => tCons (tVar 0) tNil
  | _ => tCons (tVar 1) (tCons (tVar 0) tNil)
def gvK : List Str → List V → List V
  | [] => id
  | _ => List.reverse
def madeA (mg : Str → Option Value) : List (Str × List Str) → TA
  | [] => tNil
  | p :: r => tCons (tTup (tCons (tErr (adr mg p.1) p.2 id (argP p.2)) (tCons (tErr (adr mg p.1) p.2 (gvK p.2) (argK p.2))
      (tCons (tC (.str p.1)) tNil)))) (madeA mg r)
theorem shapes : ∀ p ∈ errs, p.2 = [] ∨ (∃ f, p.2 = [f]) ∨ ∃ f g, p.2 = [f, g] := by
  intro p hp
  have : p.2.length ≤ 2 := (by decide : ∀ p ∈ errs, p.2.length ≤ 2) p hp
  match p.2, this with
  | [], _ => exact .inl rfl
  | [f], _ => exact .inr (.inl ⟨f, rfl⟩)
  | [f, g], _ => exact .inr (.inr ⟨f, g, rfl⟩)
theorem mk1 {p : Str × List Str} (hp : p ∈ errs) {x y : V} {H : Hp} {Q : VK}
    (k : ∀ (e : Addr) (H' : Hp), Same H H' → EV mg H' e p ([x, y].take p.2.length) → Q (.ref e) H') :
    tErr (adr mg p.1) p.2 id (argP p.2) [some x, some y] H Q := by
  obtain ⟨n, fs⟩ := p
  rcases shapes _ hp with e | ⟨f, e⟩ | ⟨f, g, e⟩
  all_goals (dsimp only at e; subst e)
  · exact ⟨rfl, Nat.le_of_ble_eq_true rfl, fun a H' hn s h => k a H' s ⟨rfl, h⟩⟩
  · exact ⟨_, rfl, rfl, Nat.le_of_ble_eq_true rfl, fun a H' hn s h => k a H' s ⟨rfl, h⟩⟩
  · exact ⟨_, rfl, _, rfl, rfl, Nat.le_of_ble_eq_true rfl, fun a H' hn s h => k a H' s ⟨rfl, h⟩⟩
theorem mk2 {p : Str × List Str} (hp : p ∈ errs) {x y : V} {H : Hp} {Q : VK}
    (k : ∀ (e : Addr) (H' : Hp), Same H H' → EV mg H' e p ([x, y].take p.2.length) → Q (.ref e) H') :
    tErr (adr mg p.1) p.2 (gvK p.2) (argK p.2) [some x, some y] H Q := by
  obtain ⟨n, fs⟩ := p
  rcases shapes _ hp with e | ⟨f, e⟩ | ⟨f, g, e⟩
  all_goals (dsimp only at e; subst e)
  · exact ⟨rfl, Nat.le_of_ble_eq_true rfl, fun a H' hn s h => k a H' s ⟨rfl, h⟩⟩
  · exact ⟨_, rfl, rfl, Nat.le_of_ble_eq_true rfl, fun a H' hn s h => k a H' s ⟨rfl, h⟩⟩
  · exact ⟨_, rfl, _, rfl, rfl, Nat.le_of_ble_eq_true rfl, fun a H' hn s h => k a H' s ⟨rfl, h⟩⟩
theorem made_run {x y : V} : ∀ (r : List (Str × List Str)) (H : Hp) (Q : List V → Hp → Prop), (∀ p ∈ r, p ∈ errs) →
    (∀ (ts : List Addr) (H' : Hp), Same H H' → Rows mg H' x y r ts → Q (ts.map V.ref) H') →
    madeA mg r [some x, some y] H Q
  | [], H, Q, _, k => k [] H (Same.refl H) trivial
  | p :: r, H, Q, hp, k => by
    have h1 := hp p List.mem_cons_self
    show tErr (adr mg p.1) p.2 id (argP p.2) [some x, some y] H (fun v1 H1 =>
      tErr (adr mg p.1) p.2 (gvK p.2) (argK p.2) [some x, some y] H1 (fun v2 H2 =>
        [v1, v2, V.str p.1].length ≤ sizeLine ∧ ∀ t, H2 t = none → madeA mg r [some x, some y]
          (upd H2 t (.tup [v1, v2, .str p.1])) (fun vs H4 => Q (V.ref t :: vs) H4)))
    refine mk1 h1 fun e1 H1 s1 v1 => mk2 h1 fun e2 H2 s2 v2 => ⟨by show 3 ≤ sizeLine; decide, fun t ht => ?_⟩
    have s3 : Same H2 (upd H2 t (.tup [.ref e1, .ref e2, .str p.1])) := Same.new ht
    refine made_run r _ _ (fun q hq => hp q (List.mem_cons_of_mem _ hq)) fun ts H' s4 rs => ?_
    refine k (t :: ts) H' (((s1.trans s2).trans s3).trans s4) ⟨⟨e1, e2, s4 _ _ upd_same, ?_, ?_⟩, rs⟩
    · exact ((v1.same s2).same s3).same s4
    · exact (v2.same s3).same s4
theorem Rows.len {H : Hp} {x y : V} : ∀ {r : List (Str × List Str)} {ts : List Addr}, Rows mg H x y r ts → ts.length = r.length
  | [], [], _ => rfl
  | _ :: _, _ :: _, ⟨_, b⟩ => congrArg Nat.succ (Rows.len b)
  | [], _ :: _, h => h.elim
  | _ :: _, [], h => h.elim
def spMade (mg : Str → Option Value) : Sp := fun vs H Q _ => ∃ x y : V, vs = [x, y] ∧
  ∀ (l : Addr) (ts : List Addr) (H' : Hp), Same H H' → H' l = some (.lst (ts.map V.ref)) → Rows mg H' x y errs ts →
    Q (.ref l) H'
theorem kp_made (T : Txt K mg) : Kp P w K mg base 3 "_law_made" ["_law_x", "_law_y"] (spMade mg) := by
  refine T.d_made.ok sc_lmade (fun vs H Q E h => ?_) (fun f cdv A outer s H vs Q E hA hr h => ?_)
  · obtain ⟨x, y, rfl, _⟩ := h
    rfl
  · obtain ⟨x, y, rfl, k⟩ := h
    refine ⟨_, (pss_one (ps_ret (pe_lst (pa_cons (pe_tup (pa_cons (pe_errP (mke_BadName T) hr (by rfl) (pa_cons (pv 0) pa_nil)) (pa_cons (pe_errK (mke_BadName T) hr (by rfl) (pk_cons (pv 0) pk_nil)) (pa_cons (pe_str) pa_nil)))) (pa_cons (pe_tup (pa_cons (pe_errP (mke_BadLetter T) hr (by rfl) (pa_cons (pv 0) pa_nil)) (pa_cons (pe_errK (mke_BadLetter T) hr (by rfl) (pk_cons (pv 0) pk_nil)) (pa_cons (pe_str) pa_nil)))) (pa_cons (pe_tup (pa_cons (pe_errP (mke_BadAnswer T) hr (by rfl) (pa_cons (pv 0) pa_nil)) (pa_cons (pe_errK (mke_BadAnswer T) hr (by rfl) (pk_cons (pv 0) pk_nil)) (pa_cons (pe_str) pa_nil)))) (pa_cons (pe_tup (pa_cons (pe_errP (mke_BadNumber T) hr (by rfl) (pa_cons (pv 0) pa_nil)) (pa_cons (pe_errK (mke_BadNumber T) hr (by rfl) (pk_cons (pv 0) pk_nil)) (pa_cons (pe_str) pa_nil)))) (pa_cons (pe_tup (pa_cons (pe_errP (mke_BadWord T) hr (by rfl) (pa_cons (pv 0) pa_nil)) (pa_cons (pe_errK (mke_BadWord T) hr (by rfl) (pk_cons (pv 0) pk_nil)) (pa_cons (pe_str) pa_nil)))) (pa_cons (pe_tup (pa_cons (pe_errP (mke_NoState T) hr (by rfl) (pa_cons (pv 0) pa_nil)) (pa_cons (pe_errK (mke_NoState T) hr (by rfl) (pk_cons (pv 0) pk_nil)) (pa_cons (pe_str) pa_nil)))) (pa_cons (pe_tup (pa_cons (pe_errP (mke_NoCell T) hr (by rfl) (pa_cons (pv 0) pa_nil)) (pa_cons (pe_errK (mke_NoCell T) hr (by rfl) (pk_cons (pv 0) pk_nil)) (pa_cons (pe_str) pa_nil)))) (pa_cons (pe_tup (pa_cons (pe_errP (mke_NoText T) hr (by rfl) (pa_cons (pv 0) pa_nil)) (pa_cons (pe_errK (mke_NoText T) hr (by rfl) (pk_cons (pv 0) pk_nil)) (pa_cons (pe_str) pa_nil)))) (pa_cons (pe_tup (pa_cons (pe_errP (mke_Taken T) hr (by rfl) (pa_cons (pv 0) pa_nil)) (pa_cons (pe_errK (mke_Taken T) hr (by rfl) (pk_cons (pv 0) pk_nil)) (pa_cons (pe_str) pa_nil)))) (pa_cons (pe_tup (pa_cons (pe_errP (mke_BadConverter T) hr (by rfl) (pa_cons (pv 0) pa_nil)) (pa_cons (pe_errK (mke_BadConverter T) hr (by rfl) (pk_cons (pv 0) pk_nil)) (pa_cons (pe_str) pa_nil)))) (pa_cons (pe_tup (pa_cons (pe_errP (mke_BadGrowth T) hr (by rfl) (pa_cons (pv 0) pa_nil)) (pa_cons (pe_errK (mke_BadGrowth T) hr (by rfl) (pk_cons (pv 0) pk_nil)) (pa_cons (pe_str) pa_nil)))) (pa_cons (pe_tup (pa_cons (pe_errP (mke_BadPaper T) hr (by rfl) (pa_cons (pv 0) pa_nil)) (pa_cons (pe_errK (mke_BadPaper T) hr (by rfl) (pk_cons (pv 0) pk_nil)) (pa_cons (pe_str) pa_nil)))) (pa_cons (pe_tup (pa_cons (pe_errP (mke_BadArray T) hr (by rfl) (pa_cons (pv 0) pa_nil)) (pa_cons (pe_errK (mke_BadArray T) hr (by rfl) (pk_cons (pv 0) pk_nil)) (pa_cons (pe_str) pa_nil)))) (pa_cons (pe_tup (pa_cons (pe_errP (mke_BadDeed T) hr (by rfl) (pa_cons (pv 0) pa_nil)) (pa_cons (pe_errK (mke_BadDeed T) hr (by rfl) (pk_cons (pv 0) pk_nil)) (pa_cons (pe_str) pa_nil)))) (pa_cons (pe_tup (pa_cons (pe_errP (mke_BadLog T) hr (by rfl) (pa_cons (pv 0) pa_nil)) (pa_cons (pe_errK (mke_BadLog T) hr (by rfl) (pk_cons (pv 0) pk_nil)) (pa_cons (pe_str) pa_nil)))) (pa_cons (pe_tup (pa_cons (pe_errP (mke_NoTail T) hr (by rfl) (pa_cons (pv 0) pa_nil)) (pa_cons (pe_errK (mke_NoTail T) hr (by rfl) (pk_cons (pv 0) pk_nil)) (pa_cons (pe_str) pa_nil)))) (pa_cons (pe_tup (pa_cons (pe_errP (mke_RunOver T) hr (by rfl) (pa_cons (pv 0) pa_nil)) (pa_cons (pe_errK (mke_RunOver T) hr (by rfl) (pk_cons (pv 0) pk_nil)) (pa_cons (pe_str) pa_nil)))) (pa_cons (pe_tup (pa_cons (pe_errP (mke_NoRoom T) hr (by rfl) (pa_cons (pv 0) pa_nil)) (pa_cons (pe_errK (mke_NoRoom T) hr (by rfl) (pk_cons (pv 0) pk_nil)) (pa_cons (pe_str) pa_nil)))) (pa_cons (pe_tup (pa_cons (pe_errP (mke_BadCommand T) hr (by rfl) (pa_cons (pv 0) pa_nil)) (pa_cons (pe_errK (mke_BadCommand T) hr (by rfl) (pk_cons (pv 0) pk_nil)) (pa_cons (pe_str) pa_nil)))) (pa_cons (pe_tup (pa_cons (pe_errP (mke_BadText T) hr (by rfl) (pa_cons (pv 0) (pa_cons (pv 1) pa_nil))) (pa_cons (pe_errK (mke_BadText T) hr (by rfl) (pk_cons (pv 1) (pk_cons (pv 0) pk_nil))) (pa_cons (pe_str) pa_nil)))) (pa_cons (pe_tup (pa_cons (pe_errP (mke_NoStep T) hr (by rfl) (pa_cons (pv 0) (pa_cons (pv 1) pa_nil))) (pa_cons (pe_errK (mke_NoStep T) hr (by rfl) (pk_cons (pv 1) (pk_cons (pv 0) pk_nil))) (pa_cons (pe_str) pa_nil)))) (pa_cons (pe_tup (pa_cons (pe_errP (mke_TooMany T) hr (by rfl) (pa_cons (pv 0) (pa_cons (pv 1) pa_nil))) (pa_cons (pe_errK (mke_TooMany T) hr (by rfl) (pk_cons (pv 1) (pk_cons (pv 0) pk_nil))) (pa_cons (pe_str) pa_nil)))) (pa_cons (pe_tup (pa_cons (pe_err0 (T.er0) T.no0 (by rfl)) (pa_cons (pe_err0 (T.er0) T.no0 (by rfl)) (pa_cons (pe_str) pa_nil)))) pa_nil)))))))))))))))))))))))))), ?_⟩
    refine made_run (x := x) (y := y) errs H (fun ws H3 => ws.length ≤ sizeLine ∧ ∀ l, H3 l = none → Q (.ref l) (upd H3 l (.lst ws)))
      (fun q hq => hq) fun ts H1 s1 rs => ⟨?_, fun l hl => ?_⟩
    · rw [List.length_map, rs.len]
      decide
    · exact k l ts _ (s1.trans (Same.new hl)) upd_same (rs.same (Same.new hl))
end
end KK

namespace KK
open PySem L2
section
variable {P : Program} {w : World} {K : PySem.W.Frag} {mg : Str → Option Value} {base : Heap}
/-- data that is small to show -/
def Fit (d : PyData) (n k : Nat) : Prop := d.showable = true ∧ d.depth ≤ n ∧ d.shown.length ≤ k
def AllFit (n k : Nat) : List PyData → Prop
  | [] => True
  | d :: ds => Fit d n k ∧ AllFit n k ds
theorem allFit {n k : Nat} : ∀ {ds : List PyData}, AllFit n k ds → PyData.showableAll ds = true ∧
    PyData.depthAll ds ≤ n ∧ ((PyData.shownAll ds).map (·.length)).sum ≤ k * ds.length ∧ (PyData.shownAll ds).length = ds.length
  | [], _ => ⟨by simp [PyData.showableAll], by simp [PyData.depthAll], by simp [PyData.shownAll], by simp [PyData.shownAll]⟩
  | d :: ds, ⟨⟨a, b, c⟩, h⟩ => by
    obtain ⟨h1, h2, h3, h4⟩ := allFit h
    refine ⟨by simp [PyData.showableAll, a, h1], by simp only [PyData.depthAll]; omega, ?_, by simp [PyData.shownAll, h4]⟩
    simp only [PyData.shownAll, List.map_cons, List.sum_cons, List.length_cons]
    rw [Nat.mul_succ]
    omega
theorem fit_list {n k : Nat} {ds : List PyData} (h : AllFit n k ds) : Fit (.list ds) (n + 1) (k * ds.length + 2 * ds.length + 3) := by
  obtain ⟨h1, h2, h3, h4⟩ := allFit h
  refine ⟨by simpa [PyData.showable] using h1, by simp only [PyData.depth]; omega, ?_⟩
  have := listText_len_le (PyData.shownAll ds)
  simp only [PyData.shown]
  omega
theorem fit_tuple {n k : Nat} {ds : List PyData} (h : AllFit n k ds) : Fit (.tuple ds) (n + 1) (k * ds.length + 2 * ds.length + 3) := by
  obtain ⟨h1, h2, h3, h4⟩ := allFit h
  refine ⟨by simpa [PyData.showable] using h1, by simp only [PyData.depth]; omega, ?_⟩
  have := tupleText_len_le (PyData.shownAll ds)
  simp only [PyData.shown]
  omega
theorem Fit.mono {d : PyData} {n k n' k' : Nat} (h : Fit d n k) (a : n ≤ n') (b : k ≤ k') : Fit d n' k' :=
  ⟨h.1, Nat.le_trans h.2.1 a, Nat.le_trans h.2.2 b⟩
/-- a value that is drawn: small data, wherever the pen stands -/
def ItemOk (K : PySem.W.Frag) (p : Addr) (H : Hp) (v : V) : Prop := ∃ d, Fit d 2 100 ∧ ∀ H', But p H H' → Dq K H' v d
theorem ItemOk.but {p : Addr} {H H' : Hp} {v : V} (h : ItemOk K p H v) (b : But p H H') : ItemOk K p H' v := by
  obtain ⟨d, f, k⟩ := h
  exact ⟨d, f, fun H2 b2 => k H2 (b.trans b2)⟩
theorem item_data {p : Addr} {H : Hp} : ∀ xs : List V, (∀ v ∈ xs, ItemOk K p H v) →
    ∃ ds, ds.length = xs.length ∧ AllFit 2 100 ds ∧ ∀ H', But p H H' → DqAll K H' xs ds
  | [], _ => ⟨[], rfl, trivial, fun _ _ => .nil⟩
  | v :: xs, h => by
    obtain ⟨d, f, k⟩ := h v List.mem_cons_self
    obtain ⟨ds, l, fs, ks⟩ := item_data xs fun u hu => h u (List.mem_cons_of_mem _ hu)
    exact ⟨d :: ds, by simp [l], ⟨f, fs⟩, fun H' b => .cons (k H' b) (ks H' b)⟩
theorem name_fit : ∀ x ∈ enames, Fit (.str x) 2 207 := by
  intro x hx
  have h : ∀ x ∈ enames, (PyData.shown (.str x)).length ≤ 207 := by decide +kernel
  exact ⟨by simp [PyData.showable], by simp [PyData.depth], h x hx⟩
theorem rows_at {H : Hp} {x y : V} : ∀ {r : List (Str × List Str)} {ts : List Addr} {j : Nat} {t : Addr}, Rows mg H x y r ts →
    ts[j]? = some t → ∃ q ∈ r, Row mg H x y q t
  | [], [], j, t, _, h => by simp at h
  | p :: r, u :: ts, 0, t, ⟨a, _⟩, h => by
    simp at h
    subst h
    exact ⟨p, List.mem_cons_self, a⟩
  | p :: r, u :: ts, j + 1, t, ⟨_, b⟩, h => by
    obtain ⟨q, hq, k⟩ := rows_at (j := j) b (by simpa using h)
    exact ⟨q, List.mem_cons_of_mem _ hq, k⟩
  | [], _ :: _, _, _, h, _ => h.elim
  | _ :: _, [], _, _, h, _ => h.elim
theorem PenAt.same {H H' : Hp} {p : Addr} {ns : List Int} {n : Nat} (h : PenAt H p ns n) (s : Same H H') : PenAt H' p ns n := by
  obtain ⟨c, t, g, a, b, r⟩ := h
  exact ⟨c, t, g, s _ _ a, s _ _ b, r⟩
theorem take_len (x y : V) {p : Str × List Str} (hp : p ∈ errs) : ([x, y].take p.2.length).length = p.2.length := by
  have : p.2.length ≤ 2 := (by decide : ∀ p ∈ errs, p.2.length ≤ 2) p hp
  rw [List.length_take]
  simp only [List.length_cons, List.length_nil]
  omega
theorem cut_xy (x y : V) (n : Nat) : cutV [x, y] none (some (n : Int)) = [x, y].take n := by
  have q : cutV [x, y] none (some (n : Int)) = ([x, y].drop (HT.sIx 2 0 none)).take (HT.sIx 2 2 (some (n : Int)) - HT.sIx 2 0 none) := rfl
  rw [q, HT.sIx_nat, HT.sIx_none, List.drop_zero]
  by_cases h : n ≤ 2
  · rw [Nat.min_eq_left h]
    rfl
  · rw [Nat.min_eq_right (by omega), List.take_of_length_le (by simp), List.take_of_length_le (by simp; omega)]
theorem at_heap {g : TG} {v : V} {σ : St} {G G' : Hp} {N : St → Hp → Prop} (e : G' = G) (h : g v σ G' N) : g v σ G N := e ▸ h
def spLaw (K : PySem.W.Frag) : Sp := fun vs H Q _ => ∃ (a : Addr) (ns : List Int), vs = [.ref a] ∧
  SqL K H a (ns.map V.int) ∧ ns.length ≤ 63 ∧ ∀ H', Q (.bl true) H'
theorem law_g (T : Txt K mg) {f : Addr} {fd : FuncData} (F : Fun K "law" "law" s_law f fd) :
    FnG P w K mg base CX0 4 f fd ["_law_script"] (spLaw K) := by
  refine F.okG sc_law (fun vs H Q E h => ?_) (fun cdv A outer s H vs Q E hA hr h => ?_)
  · obtain ⟨a, ns, rfl, _⟩ := h
    rfl
  · obtain ⟨a, ns, rfl, hs, hlen, k⟩ := h
    refine ⟨_, (pss_cons (ps_set (i := 1) sc_law.nd rfl (Or.inl rfl) (pe_kp (kp_pen T) hA hr (by rfl) (pa_cons (pv 0) pa_nil)))
 (pss_cons (ps_set (i := 2) sc_law.nd rfl (Or.inl rfl) (pe_lst (pa_cons (pe_non) (pa_cons (pe_int) (pa_cons (pe_bl) (pa_cons (pe_str) (pa_cons (pe_str) (pa_cons (pe_un un_neg (pe_op op_pow (pe_int) (pe_int))) (pa_cons (pe_tup (pa_cons (pe_int) (pa_cons (pe_str) pa_nil))) (pa_cons (pe_lst (pa_cons (pe_int) pa_nil)) (pa_cons (pe_disp (pps_cons (pe_str) (pe_non) pps_nil) (by rfl) (by rfl) (fun z => by cases z) (by decide)) pa_nil)))))))))))
 (pss_cons (ps_for PassesOwn.never rfl (pi_range1 (by rfl) (T.nb _ (by decide)) (pa_cons (pe_int) pa_nil)) (pg_name (i := 3) sc_law.nd rfl (Or.inl rfl))
 (pss_cons (ps_par (i := 4) (j := 5) (by rfl) sc_law.nd rfl rfl (by decide) rfl rfl (pa_cons (pe_kp (kp_pick T) hA hr (by rfl) (pa_cons (pv 1) (pa_cons (pv 2) pa_nil))) (pa_cons (pe_kp (kp_pick T) hA hr (by rfl) (pa_cons (pv 1) (pa_cons (pv 2) pa_nil))) pa_nil)) (by rfl))
 (pss_cons (ps_for PassesOwn.never rfl (pi_list (pe_kp (kp_made T) hA hr (by rfl) (pa_cons (pv 4) (pa_cons (pv 5) pa_nil)))) (pg_tup rfl (pgs_cons (pg_name (i := 6) sc_law.nd rfl (Or.inl rfl)) (pgs_cons (pg_name (i := 7) sc_law.nd rfl (Or.inl rfl)) (pgs_cons (pg_name (i := 8) sc_law.nd rfl (Or.inl rfl)) pgs_nil))))
 (pss_cons (ps_set (i := 9) sc_law.nd rfl (Or.inl rfl) (pe_kp (kp_fields T) hA hr (by rfl) (pa_cons (pv 6) pa_nil)))
 (pss_cons (ps_if (PW.pt (pw_or (pt_cmpR op_ne (pe_callB call_len (by rfl) (T.nb _ (by decide)) PySem.boot_len (pa_cons (pv 9) pa_nil)) (pe_int) (nomark _)) (pw_or (pt_cmpR op_ne (pe_callB (call_repq hA hr.units) (by rfl) (T.nb _ (by decide)) (by decide +kernel) (pa_cons (pv 9) pa_nil)) (pe_callB (call_repq hA hr.units) (by rfl) (T.nb _ (by decide)) (by decide +kernel) (pa_cons (pe_kp (kp_fields T) hA hr (by rfl) (pa_cons (pv 7) pa_nil)) pa_nil)) (nomark _)) (pw_or1 (pt_cmpR op_ne (pe_ix ix_tup (pe_ix ix_list (pv 9) (pe_int) (fun _ _ => rfl)) (pe_int) (fun _ _ => rfl)) (pv 8) (nomark _))))))
 (pss_one (ps_ret (pe_bl))) pss_nil)
 (pss_cons (ps_if (pt_cmpR op_ne (pe_callB (call_repq hA hr.units) (by rfl) (T.nb _ (by decide)) (by decide +kernel) (pa_cons (pe_ix ix_tup (pe_ix ix_list (pv 9) (pe_int) (fun _ _ => rfl)) (pe_int) (fun _ _ => rfl)) pa_nil)) (pe_callB (call_repq hA hr.units) (by rfl) (T.nb _ (by decide)) (by decide +kernel) (pa_cons (pe_slice sl_list (pe_lst (pa_cons (pv 4) (pa_cons (pv 5) pa_nil))) po_none (po_some (pe_callB call_len (by rfl) (T.nb _ (by decide)) PySem.boot_len (pa_cons (pe_ix ix_tup (pe_ix ix_list (pv 9) (pe_int) (fun _ _ => rfl)) (pe_int) (fun _ _ => rfl)) pa_nil)))) pa_nil)) (nomark _))
 (pss_one (ps_ret (pe_bl))) pss_nil)
 (pss_cons (ps_if (PW.pt (pw_or (pt_not (pt_val (pe_callB call_isv (by rfl) (T.nb _ (by decide)) (by decide +kernel) (pa_cons (pv 6) (pa_cons (pe_glob (v := .ref (adr mg "HeadError")) rfl (T.mgc _ (by decide)) rfl) pa_nil))))) (pw_or1 (pt_not (pt_val (pe_callB call_isv (by rfl) (T.nb _ (by decide)) (by decide +kernel) (pa_cons (pv 6) (pa_cons (pe_bltn (v := .ty "ValueError") (by rfl) (T.nb _ (by decide)) (by decide +kernel) rfl) pa_nil))))))))
 (pss_one (ps_ret (pe_bl))) pss_nil)
 (pss_one (ps_if (PW.pt (pw_or (pt_val (pe_callB call_isv (by rfl) (T.nb _ (by decide)) (by decide +kernel) (pa_cons (pv 6) (pa_cons (pe_bltn (v := .ty "LookupError") (by rfl) (T.nb _ (by decide)) (by decide +kernel) rfl) pa_nil)))) (pw_or (pt_val (pe_callB call_isv (by rfl) (T.nb _ (by decide)) (by decide +kernel) (pa_cons (pv 6) (pa_cons (pe_bltn (v := .ty "ArithmeticError") (by rfl) (T.nb _ (by decide)) (by decide +kernel) rfl) pa_nil)))) (pw_or1 (pt_val (pe_callB call_isv (by rfl) (T.nb _ (by decide)) (by decide +kernel) (pa_cons (pv 6) (pa_cons (pe_bltn (v := .ty "TypeError") (by rfl) (T.nb _ (by decide)) (by decide +kernel) rfl) pa_nil))))))))
 (pss_one (ps_ret (pe_bl))) pss_nil)))))))
 (pss_one (ps_if (PW.pt (pw_or (pt_cmpR op_ne (pe_callB call_len (by rfl) (T.nb _ (by decide)) PySem.boot_len (pa_cons (pe_ix ix_tup (pe_ix ix_list (pe_kp (kp_fields T) hA hr (by rfl) (pa_cons (pe_errP (mke_BadText T) hr (by rfl) (pa_cons (pv 4) (pa_cons (pv 5) pa_nil))) pa_nil)) (pe_int) (fun _ _ => rfl)) (pe_int) (fun _ _ => rfl)) pa_nil)) (pe_int) (nomark _)) (pw_or1 (pt_cmpR (op_neD hr.units) (pe_kp (kp_fields T) hA hr (by rfl) (pa_cons (pe_err0 (T.er0) T.no0 (by rfl)) pa_nil)) (pe_lst (pa_cons (pe_tup (pa_cons (pe_str) (pa_cons (pe_lst pa_nil) pa_nil))) pa_nil)) (nomark _)))))
 (pss_one (ps_ret (pe_bl))) pss_nil)))))
 (pss_one (ps_ret (pe_bl)))))), ?_⟩
    refine ⟨_, rfl, a, ns, rfl, hs, hlen, fun p H1 hp s1 pen => ?_⟩
    refine ⟨_, _, rfl, rfl, ⟨by decide, by decide, by decide⟩, _, rfl, (by show 2 ≤ sizeLine; decide), fun t ht => ?_⟩
    refine ⟨(by show 1 ≤ sizeLine; decide), fun l2 hl2 => ?_⟩
    refine fun d hd => ?_
    refine ⟨upd_same, [(.inr "k", .non)], rfl, by decide, ?_⟩
    refine ⟨(by show 9 ≤ sizeLine; decide), fun l hl => ?_⟩
    obtain ⟨c, t0, g0, hp1, hc1, _⟩ := id pen
    -- what is drawn from
    have tp : t ≠ p := (ne_of_none hp1 ht).symm
    have dp : d ≠ p := (ne_of_none (upd_new hl2 (upd_new ht hp1)) hd).symm
    have lp2 : l2 ≠ p := (ne_of_none (upd_new ht hp1) hl2).symm
    obtain ⟨items, ei⟩ : ∃ xs : List V, xs = [.non, .int 0, .bl true, .str "", .str "a b", .int (-(10 ^ (40 : Int).toNat)), .ref t, .ref l2, .ref d] := ⟨_, rfl⟩
    have il : items.length = 9 := by rw [ei]; rfl
    have s2 : Same H1 (upd (upd (upd H1 t (.tup [.int 1, .str "x"])) l2 (.lst [.int 2])) d (.dK [])) :=
      (Same.new ht).trans ((Same.new hl2).trans (Same.new hd))
    have pen2 := pen.same s2
    obtain ⟨H2, eH2⟩ : ∃ H2, H2 = upd (upd (upd (upd (upd H1 t (.tup [.int 1, .str "x"])) l2 (.lst [.int 2])) d (.dK [])) d (.dK [(.inr "k", .non)])) l (.lst items) := ⟨_, rfl⟩
    have hl' : upd (upd (upd (upd H1 t (.tup [.int 1, .str "x"])) l2 (.lst [.int 2])) d (.dK [])) d (.dK [(.inr "k", .non)]) l = none := hl
    have oth : ∀ b o, b ≠ d → upd (upd (upd H1 t (.tup [.int 1, .str "x"])) l2 (.lst [.int 2])) d (.dK []) b = some o → H2 b = some o := by
      intro b o hb e
      rw [eH2]
      exact upd_new hl' (upd_oth hb e)
    have htd : t ≠ d := ne_of_none (upd_new hl2 upd_same) hd
    have hld : l2 ≠ d := ne_of_none upd_same hd
    have h2t : H2 t = some (.tup [.int 1, .str "x"]) := oth _ _ htd (upd_new hd (upd_new hl2 upd_same))
    have h2l : H2 l2 = some (.lst [.int 2]) := oth _ _ hld (upd_new hd upd_same)
    have h2d : H2 d = some (.dK [(.inr "k", .non)]) := by
      rw [eH2]
      exact upd_new hl' upd_same
    have h2s : H2 l = some (.lst items) := by
      rw [eH2]
      exact upd_same
    have h2p : PenAt H2 p ns 0 := by
      obtain ⟨c, t0, g0, a1, a2, a3⟩ := pen
      have cd : c ≠ d := ne_of_none (upd_new hl2 (upd_new ht a2)) hd
      exact ⟨c, t0, g0, oth _ _ dp.symm (s2 _ _ a1), oth _ _ cd (s2 _ _ a2), a3⟩
    have lp : l ≠ p := by
      intro z
      obtain ⟨c, t0, g0, a1, _⟩ := h2p
      rw [← z, h2s] at a1
      have q := congrArg List.length (HO.lst.inj (Option.some.inj a1))
      rw [il] at q
      exact absurd q (by show ¬ (9 : Nat) = 3; decide)
    have it : ∀ v ∈ items, ItemOk K p H2 v := by
      intro v hv
      rw [ei] at hv
      simp only [List.mem_cons, List.not_mem_nil, or_false] at hv
      rcases hv with rfl | rfl | rfl | rfl | rfl | rfl | rfl | rfl | rfl
      · exact ⟨_, ⟨by decide +kernel, by decide +kernel, by decide +kernel⟩, fun _ _ => .non⟩
      · exact ⟨_, ⟨by decide +kernel, by decide +kernel, by decide +kernel⟩, fun _ _ => .int _⟩
      · exact ⟨_, ⟨by decide +kernel, by decide +kernel, by decide +kernel⟩, fun _ _ => .bl _⟩
      · exact ⟨_, ⟨by decide +kernel, by decide +kernel, by decide +kernel⟩, fun _ _ => .str _⟩
      · exact ⟨_, ⟨by decide +kernel, by decide +kernel, by decide +kernel⟩, fun _ _ => .str _⟩
      · exact ⟨_, ⟨by decide +kernel, by decide +kernel, by decide +kernel⟩, fun _ _ => .int _⟩
      · exact ⟨.tuple [.int 1, .str "x"], ⟨by decide +kernel, by decide +kernel, by decide +kernel⟩, fun H' b =>
          .tup (SqT.of (b t tp _ h2t)) (.cons (.int 1) (.cons (.str "x") .nil))⟩
      · exact ⟨.list [.int 2], ⟨by decide +kernel, by decide +kernel, by decide +kernel⟩, fun H' b =>
          .lst (SqL.of (b l2 lp2 _ h2l)) (.cons (.int 2) .nil)⟩
      · exact ⟨.dict [(.str "k", .none)], ⟨by decide +kernel, by decide +kernel, by decide +kernel⟩, fun H' b =>
          .dic (b d dp _ h2d) (.cons .non .nil)⟩
    refine at_heap (g := gName 2) (G' := H2) (by rw [eH2, ei]; rfl) ?_
    clear eH2 ei hl' oth s2 pen2 hl hd hl2 ht
    refine ⟨6, rfl, by decide, by decide, for_range (lo := 0) (n := 6) (fun i σ H' => ∃ v3 v4 v5 v6 v7 v8 v9 : Option V,
      σ = [some (.ref a), some (.ref p), some (.ref l), v3, v4, v5, v6, v7, v8, v9] ∧ PenAt H' p ns (2 * i) ∧
      H' l = some (.lst items) ∧ ∀ v ∈ items, ItemOk K p H' v) ⟨_, _, _, _, _, _, _, rfl, h2p, h2s, it⟩ ?_ ?_⟩
    · rintro i σ H3 hi ⟨v3, v4, v5, v6, v7, v8, v9, rfl, pn, hls, itm⟩
      refine ⟨_, rfl, _, rfl, p, l, items, ns, 2 * i, rfl, pn, hlen, hls, lp, by omega, by omega, by omega, fun x H4 hx pn4 b4 => ?_⟩
      have hls4 := b4 l lp _ hls
      refine ⟨_, rfl, _, rfl, p, l, items, ns, 2 * i + 1, rfl, pn4, hlen, hls4, lp, by omega, by omega, by omega, fun y H5 hy pn5 b5 => ?_⟩
      have b35 := b4.trans b5
      have hls5 := b35 l lp _ hls
      have okx : ItemOk K p H5 x := (itm x hx).but b35
      have oky : ItemOk K p H5 y := (itm y hy).but b35
      refine ⟨_, _, rfl, ?_⟩
      refine ⟨_, rfl, _, rfl, x, y, rfl, fun lm ts H6 s6 hlm rows => ?_⟩
      refine ⟨lm, rfl, ⟨_, SqL.of hlm⟩, for_list (K := K) (a := lm) (xs := ts.map V.ref) (fun j σ H' => ∃ u6 u7 u8 u9 : Option V,
        σ = [some (.ref a), some (.ref p), some (.ref l), some (.int (0 + (i : Int))), some x, some y, u6, u7, u8, u9] ∧ Same H6 H')
        ⟨_, _, _, _, rfl, Same.refl _⟩ (fun j σ H' _ ⟨_, _, _, _, _, sm⟩ => SqL.of (sm _ _ hlm)) ?_ ?_⟩
      · rintro j z σ H7 hj ⟨u6, u7, u8, u9, rfl, sm⟩
        obtain ⟨tj, ej, hz⟩ : ∃ tj, ts[j]? = some tj ∧ z = .ref tj := by
          rw [List.getElem?_map] at hj
          cases e : ts[j]? with
          | none => rw [e] at hj; cases hj
          | some tj => rw [e] at hj; exact ⟨tj, rfl, (Option.some.inj hj).symm⟩
        subst hz
        obtain ⟨q, hq, e1, e2, r1, r2, r3⟩ := rows_at rows ej
        have r1' := sm _ _ r1
        have ev1 := r2.same sm
        have ev2 := r3.same sm
        obtain ⟨ds, dl, dfit, dq⟩ := item_data (K := K) (p := p) (H := H5) ([x, y].take q.2.length) (fun v hv => by
          have := List.mem_of_mem_take hv
          simp only [List.mem_cons, List.not_mem_nil, or_false] at this
          rcases this with rfl | rfl
          · exact okx
          · exact oky)
        have hnm : q.1 ∈ enames := by
          have e : enames = errs.map (·.1) := by decide
          rw [e]
          exact List.mem_map_of_mem hq
        have dlen : ds.length ≤ 2 := by
          rw [dl, take_len x y hq]
          exact (by decide : ∀ p ∈ errs, p.2.length ≤ 2) q hq
        have fl : Fit (.list ds) 3 207 := (fit_list dfit).mono (Nat.le_refl _) (by omega)
        have ft : Fit (.tuple [.str q.1, .list ds]) 4 1000 :=
          (fit_tuple (show AllFit 3 207 [.str q.1, .list ds] from ⟨(name_fit q.1 hnm).mono (by decide) (by decide), fl, trivial⟩)).mono
            (Nat.le_refl _) (Nat.le_of_ble_eq_true rfl)
        have ftl : Fit (.list [.tuple [.str q.1, .list ds]]) 5 2000 :=
          (fit_list (show AllFit 4 1000 [.tuple [.str q.1, .list ds]] from ⟨ft, trivial⟩)).mono
            (Nat.le_refl _) (Nat.le_of_ble_eq_true rfl)
        have big : ∀ {n : Nat}, n ≤ 2000 → n ≤ sizeLine := fun h => Nat.le_trans h (by decide)
        refine ⟨tj, _, rfl, SqT.of r1', rfl, _, _, rfl, _, _, rfl, _, _, rfl, rfl, ?_⟩
        refine ⟨_, rfl, e1, q, _, rfl, hq, ev1, fun l1 t1 w1 H8 s8 f1 f2 f3 => ?_⟩
        have b58 : But p H5 H8 := ((s6.trans sm).trans s8).but
        refine ⟨_, rfl, _, _, rfl, len_lst f1, rfl, _, rfl, iteNS rfl ?_⟩
        refine ⟨_, rfl, l1, .list [.tuple [.str q.1, .list ds]], rfl, .lst (SqL.of f1) (.cons (.tup (SqT.of f2) (.cons (.str _)
          (.cons (.lst (SqL.of f3) (dq _ b58)) .nil))) .nil), ftl.1, Nat.le_trans ftl.2.1 (by decide), big ftl.2.2, ?_⟩
        refine ⟨_, rfl, e2, q, _, rfl, hq, ev2.same s8, fun l3 t3 w3 H9 s9 g1 g2 g3 => ?_⟩
        have b59 : But p H5 H9 := b58.trans s9.but
        refine ⟨l3, .list [.tuple [.str q.1, .list ds]], rfl, .lst (SqL.of g1) (.cons (.tup (SqT.of g2) (.cons (.str _)
          (.cons (.lst (SqL.of g3) (dq _ b59)) .nil))) .nil), ftl.1, Nat.le_trans ftl.2.1 (by decide), big ftl.2.2, ?_⟩
        refine ⟨rfl, _, rfl, iteNS rfl ?_⟩
        have f1' := s9 _ _ f1
        have f2' := s9 _ _ f2
        have f3' := s9 _ _ f3
        refine ⟨_, rfl, _, _, _, _, rfl, rfl, SqL.of f1', rfl, _, _, _, _, rfl, rfl, SqT.of f2', rfl, _, rfl, rfl, _, rfl, iteNS rfl ?_⟩
        -- the values again
        refine ⟨_, rfl, _, _, _, _, rfl, rfl, SqL.of f1', rfl, _, _, _, _, rfl, rfl, SqT.of f2', rfl, ?_⟩
        refine ⟨w1, .list ds, rfl, .lst (SqL.of f3') (dq _ b59), fl.1, Nat.le_trans fl.2.1 (by decide), big (Nat.le_trans fl.2.2 (by decide)), ?_⟩
        refine ⟨_, rfl, _, rfl, (by show 2 ≤ sizeLine; decide), fun lz hz => ?_⟩
        refine ⟨_, rfl, _, _, _, _, rfl, rfl, SqL.of (upd_new hz f1'), rfl, _, _, _, _, rfl, rfl, SqT.of (upd_new hz f2'), rfl, _, _, rfl, len_lst (upd_new hz f3'), ?_⟩
        refine ⟨_, rfl, lz, _, rfl, SqL.of upd_same, fun ls hs => ?_⟩
        rw [take_len x y hq, cut_xy]
        have s10 := (Same.new (u := .lst [x, y]) hz).trans (Same.new (u := .lst ([x, y].take q.2.length)) hs)
        refine ⟨ls, .list ds, rfl, .lst (SqL.of upd_same) (dq _ (b59.trans s10.but)), fl.1, Nat.le_trans fl.2.1 (by decide), big (Nat.le_trans fl.2.2 (by decide)), ?_⟩
        refine ⟨rfl, _, rfl, iteNS rfl ?_⟩
        have ev10 := ((ev1.same s8).same s9).same s10
        refine is_run (T := T) hq ev10 rfl rel_ref (T.kitH _ hnm) (iteF ?_)
        refine is_run (T := T) hq ev10 rfl rel_ty (T.kitV _ hnm) (iteF ?_)
        refine is_run (T := T) hq ev10 rfl rel_ty (T.kitN _ hnm "LookupError" (by simp)) (iteF ?_)
        refine is_run (T := T) hq ev10 rfl rel_ty (T.kitN _ hnm "ArithmeticError" (by simp)) (iteF ?_)
        refine is_run (T := T) hq ev10 rfl rel_ty (T.kitN _ hnm "TypeError" (by simp)) (iteF ?_)
        exact ⟨_, _, _, _, rfl, sm.trans ((s8.trans s9).trans s10)⟩
      · rintro σ H7 ⟨u6, u7, u8, u9, rfl, sm⟩
        have s57 := s6.trans sm
        refine ⟨_, rfl, _, rfl, rfl, Nat.le_of_ble_eq_true rfl, fun e H8 hn s8 xv => ?_⟩
        refine ⟨e, ("BadText", ["line", "word"]), [x, y], rfl, by decide, ⟨rfl, xv⟩, fun l1 t1 w1 H9 s9 g1 g2 g3 => ?_⟩
        refine ⟨_, _, _, _, rfl, rfl, SqL.of g1, rfl, _, _, _, _, rfl, rfl, SqT.of g2, rfl, _, _, rfl, len_lst g3, rfl, _, rfl, iteNS rfl ?_⟩
        refine ⟨rfl, Nat.le_of_ble_eq_true rfl, fun e' H10 hn' s10 xv' => ?_⟩
        refine ⟨e', ("Nothing", []), [], rfl, by decide, ⟨rfl, xv'⟩, fun l2 t2 w2 H11 s11 k1 k2 k3 => ?_⟩
        refine ⟨(by show 0 ≤ sizeLine; decide), fun q1 hq1 => ⟨(by show 2 ≤ sizeLine; decide), fun q2 hq2 => ⟨(by show 1 ≤ sizeLine; decide), fun q3 hq3 => ?_⟩⟩⟩
        have sA := ((Same.new (u := .lst []) hq1).trans (Same.new (u := .tup [.str "Nothing", .ref q1]) hq2)).trans (Same.new (u := .lst [.ref q2]) hq3)
        refine ⟨.list [.tuple [.str "Nothing", .list []]], .list [.tuple [.str "Nothing", .list []]], ?_, ?_, by decide +kernel, by decide +kernel, _, rfl, ?_⟩
        · exact .lst (SqL.of (sA _ _ k1)) (.cons (.tup (SqT.of (sA _ _ k2)) (.cons (.str _) (.cons (.lst (SqL.of (sA _ _ k3)) .nil) .nil))) .nil)
        · exact .lst (SqL.of upd_same) (.cons (.tup (SqT.of (upd_new hq3 upd_same)) (.cons (.str _)
            (.cons (.lst (SqL.of (upd_new hq3 (upd_new hq2 upd_same))) .nil) .nil))) .nil)
        · refine iteF ?_
          have sZ := ((((s57.trans s8).trans s9).trans s10).trans s11).trans sA
          refine ⟨_, _, _, _, _, _, _, rfl, ?_, sZ _ _ hls5, fun v hv => (itm v hv).but (b35.trans sZ.but)⟩
          exact pn5.same sZ
    · rintro σ H3 ⟨v3, v4, v5, v6, v7, v8, v9, rfl, _⟩
      exact k _
end
end KK

namespace KK
open PySem L2
def oexB (K : PySem.W.Frag) (C : Addr) : Bool := match K.lookup C with
  | some ⟨.type t, _, .cls cd, sl⟩ => decide (t = "type") && (cd.hasDict && (!cd.hasDel && (match cd.mro, sl.toList with
    | .ref C1 :: bm, [_, _, _, _, some (.builtin n), _] => decide (C1 = C) && (decide (n = "ValueError.__new__") &&
        PySem.HandSPX.refsVE bm)
    | _, _ => false)))
  | _ => false
def restB (K : PySem.W.Frag) (C : Addr) : Bool :=
  decide (PySem.W.findIn K (.ref C) "__setattr__" = some (some (.builtin "object.__setattr__"))) &&
  (decide (PySem.W.subIn K (.ref C) (.type "BaseException") = some true) &&
  (decide (PySem.W.typeIn K (.ref C) = some (.type "type")) && (PySem.W.keepIn K (.ref C) &&
  (decide (PySem.W.findIn K (.ref C) "__getattribute__" = some (some (.builtin "BaseException.__getattribute__"))) &&
  (decide (PySem.W.findIn K (.ref C) "__getattr__" = some none) && (PySem.W.hasDictIn K C &&
  ((PySem.W.clsIn K C).isSome &&
  (decide (PySem.W.findIn K (.ref C) "__class__" = some (some (.builtin "object.__class__"))) &&
  (decide (PySem.W.specialIn K (.builtin "object.__class__") "__get__" = some (some (.builtin "getset_descriptor.__get__"))) &&
  (decide (PySem.W.takesIn K (.builtin "object.__class__") = some true) &&
  decide (PySem.W.mroIn K C (.type "object") = some true)))))))))))
theorem oex_of {K : PySem.W.Frag} {C : Addr} (a : oexB K C = true) (b : restB K C = true) : OexC K C ∧ XCl K C := by
  unfold restB at b
  simp only [Bool.and_eq_true, decide_eq_true_eq] at b
  obtain ⟨b1, b2, b3, b4, b5, b6, b7, b8, b9, b10, b11, b12⟩ := b
  refine ⟨⟨?_, b1, b2, b3, b4⟩, ⟨b5, b6, b2, b7, b8, b9, b10, b11, b12⟩⟩
  unfold oexB at a
  split at a
  · rename_i t dd cd sl ho
    simp only [Bool.and_eq_true, decide_eq_true_eq, Bool.not_eq_true'] at a
    obtain ⟨a1, a2, a3, a4⟩ := a
    split at a4
    · rename_i C1 bm k0 k1 k2 k3 n k5 hm hs
      simp only [Bool.and_eq_true, decide_eq_true_eq] at a4
      obtain ⟨a5, a6, a7⟩ := a4
      subst a1 a5 a6
      obtain ⟨nm, bs, mro, ns, qn, hd, sn, sub, ab, col, del⟩ := cd
      dsimp only at hm a2 a3
      subst hm a2 a3
      obtain ⟨ls⟩ := sl
      dsimp only at hs
      subst hs
      exact ⟨nm, qn, ns, bs, bm, sn, sub, ab, col, dd, k0, k1, k2, k3, k5, ho, a7⟩
    · cases a4
  · cases a
def clsB (K : PySem.W.Frag) (x : Str) (fs : List Str) : Bool := match PySem.W.nsIn K mainGlobals x with
  | some (some (.ref C)) => oexB K C && (restB K C && fs.all fun f => decide (PySem.W.findIn K (.ref C) f = some none))
  | _ => false
theorem cls_of {K : PySem.W.Frag} {mg : Str → Option Value} {h : Heap} {x : Str} {fs : List Str} (X : K.In h)
    (G : h.Ns mainGlobals mg) (c : clsB K x fs = true) : ErrK K mg x fs := by
  unfold clsB at c
  split at c
  · rename_i C hC
    simp only [Bool.and_eq_true, List.all_eq_true, decide_eq_true_eq] at c
    obtain ⟨c1, c2, c3⟩ := c
    have e := PySem.W.mg_of X G hC
    have ea := adr_of e
    obtain ⟨o, z⟩ := oex_of c1 c2
    exact ⟨by rw [ea]; exact e, by rw [ea]; exact o, by rw [ea]; exact z, by rw [ea]; exact c3⟩
  · cases c
def kitB (K : PySem.W.Frag) (x : Str) (c : Value) (b : Bool) : Bool := match PySem.W.nsIn K mainGlobals x with
  | some (some (.ref C)) => decide (PySem.W.kitOne K (.ref C) c = some b)
  | _ => false
def kitB2 (K : PySem.W.Frag) (x y : Str) (b : Bool) : Bool := match PySem.W.nsIn K mainGlobals y with
  | some (some (.ref C)) => kitB K x (.ref C) b
  | _ => false
section
variable {K : PySem.W.Frag} {mg : Str → Option Value} {h : Heap}
theorem kit_of1 {x : Str} {c : Value} {b : Bool} (X : K.In h) (G : h.Ns mainGlobals mg) (e : kitB K x c b = true) :
    PySem.W.kitOne K (.ref (adr mg x)) c = some b := by
  unfold kitB at e
  split at e
  · rename_i C hC
    rw [adr_of (PySem.W.mg_of X G hC)]
    simpa using e
  · cases e
theorem kit_of2 {x y : Str} {b : Bool} (X : K.In h) (G : h.Ns mainGlobals mg) (e : kitB2 K x y b = true) :
    PySem.W.kitOne K (.ref (adr mg x)) (.ref (adr mg y)) = some b := by
  unfold kitB2 at e
  split at e
  · rename_i C hC
    rw [adr_of (PySem.W.mg_of X G hC)]
    exact kit_of1 X G e
  · cases e
end
/-- an error class by its name -/
def errOf (x : Str) : Str × List Str := (errs.find? fun p => decide (p.1 = x)).getD ("", [])
def chk (K : PySem.W.Frag) : Bool :=
  (blts.all fun x => decide (PySem.W.nsIn K mainGlobals x = some none)) &&
  ((errs.all fun p => clsB K p.1 p.2) &&
  ((enames.all fun x => enames.all fun y => kitB2 K x y (decide (x = y))) &&
  ((enames.all fun x => kitB2 K x "HeadError" true) &&
  ((enames.all fun x => kitB K x (.type "ValueError") true) &&
  ((enames.all fun x => ["LookupError", "ArithmeticError", "TypeError"].all fun y => kitB K x (.type y) false) &&
  ((match PySem.W.nsIn K mainGlobals "HeadError" with
    | some (some (.ref _)) => true
    | _ => false) &&
  (match PySem.W.nsIn K mainGlobals "Nothing" with
    | some (some (.ref C)) => PySem.W.excIn K C PySem.HandSPX.veTail "ValueError.__new__"
    | _ => false)))))))
theorem ini_mk {K : PySem.W.Frag} {mg : Str → Option Value} {h : Heap} {x q : Str} {st : Stmt} {C fI : Addr}
    {od an : Option Addr} {sl : Array (Option Value)} {oc kV dc pm cd ct : Value} (X : K.In h) (G : h.Ns mainGlobals mg)
    (E : clsB K (errOf x).1 (errOf x).2 = true) (hx : (errOf x).1 = x) (aC : PySem.W.nsIn K mainGlobals x = some (some (.ref C)))
    (i : PySem.W.findIn K (.ref C) "__init__" = some (some (.ref fI)))
    (t : PySem.W.typeIn K (.ref fI) = some (.type "function"))
    (l : K.lookup fI = some ⟨oc, od, .func (PySem.W.fnOf "__init__" q (defArgs st) (defBody st) (defScope st) .none kV dc pm an cd ct), sl⟩)
    (c : PySem.W.codeIn K cd q = true) (k : PySem.W.keepIn K (.ref fI) = true) : IniK K mg x q st := by
  have ea := adr_of (PySem.W.mg_of X G aC)
  have T := (cls_of X G E).T
  rw [hx] at T
  rw [ea] at T
  refine ⟨fI, _, ?_, fun_mk (st := st) l c k⟩
  rw [ea]
  exact ⟨T, i, t⟩
theorem chk_cls {K : PySem.W.Frag} (c : chk K = true) : ∀ p ∈ errs, clsB K p.1 p.2 = true := by
  unfold chk at c
  simp only [Bool.and_eq_true, List.all_eq_true] at c
  exact c.2.1
theorem txt_mk {K : PySem.W.Frag} {mg : Str → Option Value} {h : Heap} (X : K.In h) (G : h.Ns mainGlobals mg)
    (c : chk K = true) (d1 : OwnD K mg "_law_pen" s_lpen ["_law_script"])
    (d2 : OwnD K mg "_law_draw" s_ldraw ["_law_pen_here", "_law_many"])
    (d3 : OwnD K mg "_law_pick" s_lpick ["_law_pen_here", "_law_some"])
    (d4 : OwnD K mg "_law_made" s_lmade ["_law_x", "_law_y"])
    (d5 : OwnD K mg "_law_fields" s_lfields ["_law_error"]) (d6 : OwnD K mg "law" s_law ["_law_script"])
    (i_BadName : IniK K mg "BadName" "BadName.__init__" s_iBadName)
    (i_BadLetter : IniK K mg "BadLetter" "BadLetter.__init__" s_iBadLetter)
    (i_BadAnswer : IniK K mg "BadAnswer" "BadAnswer.__init__" s_iBadAnswer)
    (i_BadNumber : IniK K mg "BadNumber" "BadNumber.__init__" s_iBadNumber)
    (i_BadWord : IniK K mg "BadWord" "BadWord.__init__" s_iBadWord)
    (i_NoState : IniK K mg "NoState" "NoState.__init__" s_iNoState)
    (i_NoCell : IniK K mg "NoCell" "NoCell.__init__" s_iNoCell)
    (i_NoText : IniK K mg "NoText" "NoText.__init__" s_iNoText)
    (i_Taken : IniK K mg "Taken" "Taken.__init__" s_iTaken)
    (i_BadConverter : IniK K mg "BadConverter" "BadConverter.__init__" s_iBadConverter)
    (i_BadGrowth : IniK K mg "BadGrowth" "BadGrowth.__init__" s_iBadGrowth)
    (i_BadPaper : IniK K mg "BadPaper" "BadPaper.__init__" s_iBadPaper)
    (i_BadArray : IniK K mg "BadArray" "BadArray.__init__" s_iBadArray)
    (i_BadDeed : IniK K mg "BadDeed" "BadDeed.__init__" s_iBadDeed)
    (i_BadLog : IniK K mg "BadLog" "BadLog.__init__" s_iBadLog)
    (i_NoTail : IniK K mg "NoTail" "NoTail.__init__" s_iNoTail)
    (i_RunOver : IniK K mg "RunOver" "RunOver.__init__" s_iRunOver)
    (i_NoRoom : IniK K mg "NoRoom" "NoRoom.__init__" s_iNoRoom)
    (i_BadCommand : IniK K mg "BadCommand" "BadCommand.__init__" s_iBadCommand)
    (i_BadText : IniK K mg "BadText" "BadText.__init__" s_iBadText)
    (i_NoStep : IniK K mg "NoStep" "NoStep.__init__" s_iNoStep)
    (i_TooMany : IniK K mg "TooMany" "TooMany.__init__" s_iTooMany)
    : Txt K mg := by
  have e := chk_cls c
  unfold chk at c
  simp only [Bool.and_eq_true, List.all_eq_true, decide_eq_true_eq] at c
  obtain ⟨c1, _, c3, c4, c5, c6, c7, c8⟩ := c
  exact {
    nb := fun x hx => PySem.W.mg_none_of X G (c1 x hx)
    d_pen := d1
    d_draw := d2
    d_pick := d3
    d_made := d4
    d_fields := d5
    d_law := d6
    er := fun p hp => cls_of X G (e p hp)
    no0 := by
      split at c8
      · rename_i C hC
        rw [adr_of (PySem.W.mg_of X G hC)]
        exact c8
      · cases c8
    mgH := by
      split at c7
      · rename_i C hC
        have q := PySem.W.mg_of X G hC
        rw [adr_of q]
        exact q
      · cases c7
    kit := fun x hx y hy => kit_of2 X G (c3 x hx y hy)
    kitH := fun x hx => kit_of2 X G (c4 x hx)
    kitV := fun x hx => kit_of1 X G (c5 x hx)
    kitN := fun x hx y hy => by
      simp only [List.mem_cons, List.not_mem_nil, or_false] at hy
      rcases hy with rfl | rfl | rfl
      · exact kit_of1 X G (c6 x hx _ (by simp))
      · exact kit_of1 X G (c6 x hx _ (by simp))
      · exact kit_of1 X G (c6 x hx _ (by simp))
    i_BadName := i_BadName
    i_BadLetter := i_BadLetter
    i_BadAnswer := i_BadAnswer
    i_BadNumber := i_BadNumber
    i_BadWord := i_BadWord
    i_NoState := i_NoState
    i_NoCell := i_NoCell
    i_NoText := i_NoText
    i_Taken := i_Taken
    i_BadConverter := i_BadConverter
    i_BadGrowth := i_BadGrowth
    i_BadPaper := i_BadPaper
    i_BadArray := i_BadArray
    i_BadDeed := i_BadDeed
    i_BadLog := i_BadLog
    i_NoTail := i_NoTail
    i_RunOver := i_RunOver
    i_NoRoom := i_NoRoom
    i_BadCommand := i_BadCommand
    i_BadText := i_BadText
    i_NoStep := i_NoStep
    i_TooMany := i_TooMany
  }
theorem fin_mk {P : Program} {w : World} {K : PySem.W.Frag} {mg : Str → Option Value} {h : Heap} {fa : Addr} (X : K.In h) (G : h.Ns mainGlobals mg)
    (hmg : mg "law" = some (.ref fa)) (c : chk K = true)
    {f0 : Addr} {od0 an0 : Option Addr} {sl0 : Array (Option Value)} {oc0 kV0 dc0 pm0 cd0 ct0 : Value}
    {f1 : Addr} {od1 an1 : Option Addr} {sl1 : Array (Option Value)} {oc1 kV1 dc1 pm1 cd1 ct1 : Value}
    {f2 : Addr} {od2 an2 : Option Addr} {sl2 : Array (Option Value)} {oc2 kV2 dc2 pm2 cd2 ct2 : Value}
    {f3 : Addr} {od3 an3 : Option Addr} {sl3 : Array (Option Value)} {oc3 kV3 dc3 pm3 cd3 ct3 : Value}
    {f4 : Addr} {od4 an4 : Option Addr} {sl4 : Array (Option Value)} {oc4 kV4 dc4 pm4 cd4 ct4 : Value}
    {f5 : Addr} {od5 an5 : Option Addr} {sl5 : Array (Option Value)} {oc5 kV5 dc5 pm5 cd5 ct5 : Value}
    {D0 g0 : Addr} {Od0 An0 : Option Addr} {Sl0 : Array (Option Value)} {Oc0 KV0 Dc0 Pm0 Cd0 Ct0 : Value}
    {D1 g1 : Addr} {Od1 An1 : Option Addr} {Sl1 : Array (Option Value)} {Oc1 KV1 Dc1 Pm1 Cd1 Ct1 : Value}
    {D2 g2 : Addr} {Od2 An2 : Option Addr} {Sl2 : Array (Option Value)} {Oc2 KV2 Dc2 Pm2 Cd2 Ct2 : Value}
    {D3 g3 : Addr} {Od3 An3 : Option Addr} {Sl3 : Array (Option Value)} {Oc3 KV3 Dc3 Pm3 Cd3 Ct3 : Value}
    {D4 g4 : Addr} {Od4 An4 : Option Addr} {Sl4 : Array (Option Value)} {Oc4 KV4 Dc4 Pm4 Cd4 Ct4 : Value}
    {D5 g5 : Addr} {Od5 An5 : Option Addr} {Sl5 : Array (Option Value)} {Oc5 KV5 Dc5 Pm5 Cd5 Ct5 : Value}
    {D6 g6 : Addr} {Od6 An6 : Option Addr} {Sl6 : Array (Option Value)} {Oc6 KV6 Dc6 Pm6 Cd6 Ct6 : Value}
    {D7 g7 : Addr} {Od7 An7 : Option Addr} {Sl7 : Array (Option Value)} {Oc7 KV7 Dc7 Pm7 Cd7 Ct7 : Value}
    {D8 g8 : Addr} {Od8 An8 : Option Addr} {Sl8 : Array (Option Value)} {Oc8 KV8 Dc8 Pm8 Cd8 Ct8 : Value}
    {D9 g9 : Addr} {Od9 An9 : Option Addr} {Sl9 : Array (Option Value)} {Oc9 KV9 Dc9 Pm9 Cd9 Ct9 : Value}
    {D10 g10 : Addr} {Od10 An10 : Option Addr} {Sl10 : Array (Option Value)} {Oc10 KV10 Dc10 Pm10 Cd10 Ct10 : Value}
    {D11 g11 : Addr} {Od11 An11 : Option Addr} {Sl11 : Array (Option Value)} {Oc11 KV11 Dc11 Pm11 Cd11 Ct11 : Value}
    {D12 g12 : Addr} {Od12 An12 : Option Addr} {Sl12 : Array (Option Value)} {Oc12 KV12 Dc12 Pm12 Cd12 Ct12 : Value}
    {D13 g13 : Addr} {Od13 An13 : Option Addr} {Sl13 : Array (Option Value)} {Oc13 KV13 Dc13 Pm13 Cd13 Ct13 : Value}
    {D14 g14 : Addr} {Od14 An14 : Option Addr} {Sl14 : Array (Option Value)} {Oc14 KV14 Dc14 Pm14 Cd14 Ct14 : Value}
    {D15 g15 : Addr} {Od15 An15 : Option Addr} {Sl15 : Array (Option Value)} {Oc15 KV15 Dc15 Pm15 Cd15 Ct15 : Value}
    {D16 g16 : Addr} {Od16 An16 : Option Addr} {Sl16 : Array (Option Value)} {Oc16 KV16 Dc16 Pm16 Cd16 Ct16 : Value}
    {D17 g17 : Addr} {Od17 An17 : Option Addr} {Sl17 : Array (Option Value)} {Oc17 KV17 Dc17 Pm17 Cd17 Ct17 : Value}
    {D18 g18 : Addr} {Od18 An18 : Option Addr} {Sl18 : Array (Option Value)} {Oc18 KV18 Dc18 Pm18 Cd18 Ct18 : Value}
    {D19 g19 : Addr} {Od19 An19 : Option Addr} {Sl19 : Array (Option Value)} {Oc19 KV19 Dc19 Pm19 Cd19 Ct19 : Value}
    {D20 g20 : Addr} {Od20 An20 : Option Addr} {Sl20 : Array (Option Value)} {Oc20 KV20 Dc20 Pm20 Cd20 Ct20 : Value}
    {D21 g21 : Addr} {Od21 An21 : Option Addr} {Sl21 : Array (Option Value)} {Oc21 KV21 Dc21 Pm21 Cd21 Ct21 : Value}
    (a0 : PySem.W.nsIn K mainGlobals "_law_pen" = some (some (.ref f0)))
    (l0 : K.lookup f0 = some ⟨oc0, od0, .func (PySem.W.fnOf "_law_pen" "_law_pen" (defArgs s_lpen) (defBody s_lpen) (defScope s_lpen) .none kV0 dc0 pm0 an0 cd0 ct0), sl0⟩)
    (c0 : PySem.W.codeIn K cd0 "_law_pen" = true) (k0 : PySem.W.keepIn K (.ref f0) = true)
    (a1 : PySem.W.nsIn K mainGlobals "_law_draw" = some (some (.ref f1)))
    (l1 : K.lookup f1 = some ⟨oc1, od1, .func (PySem.W.fnOf "_law_draw" "_law_draw" (defArgs s_ldraw) (defBody s_ldraw) (defScope s_ldraw) .none kV1 dc1 pm1 an1 cd1 ct1), sl1⟩)
    (c1 : PySem.W.codeIn K cd1 "_law_draw" = true) (k1 : PySem.W.keepIn K (.ref f1) = true)
    (a2 : PySem.W.nsIn K mainGlobals "_law_pick" = some (some (.ref f2)))
    (l2 : K.lookup f2 = some ⟨oc2, od2, .func (PySem.W.fnOf "_law_pick" "_law_pick" (defArgs s_lpick) (defBody s_lpick) (defScope s_lpick) .none kV2 dc2 pm2 an2 cd2 ct2), sl2⟩)
    (c2 : PySem.W.codeIn K cd2 "_law_pick" = true) (k2 : PySem.W.keepIn K (.ref f2) = true)
    (a3 : PySem.W.nsIn K mainGlobals "_law_made" = some (some (.ref f3)))
    (l3 : K.lookup f3 = some ⟨oc3, od3, .func (PySem.W.fnOf "_law_made" "_law_made" (defArgs s_lmade) (defBody s_lmade) (defScope s_lmade) .none kV3 dc3 pm3 an3 cd3 ct3), sl3⟩)
    (c3 : PySem.W.codeIn K cd3 "_law_made" = true) (k3 : PySem.W.keepIn K (.ref f3) = true)
    (a4 : PySem.W.nsIn K mainGlobals "_law_fields" = some (some (.ref f4)))
    (l4 : K.lookup f4 = some ⟨oc4, od4, .func (PySem.W.fnOf "_law_fields" "_law_fields" (defArgs s_lfields) (defBody s_lfields) (defScope s_lfields) .none kV4 dc4 pm4 an4 cd4 ct4), sl4⟩)
    (c4 : PySem.W.codeIn K cd4 "_law_fields" = true) (k4 : PySem.W.keepIn K (.ref f4) = true)
    (a5 : PySem.W.nsIn K mainGlobals "law" = some (some (.ref f5)))
    (l5 : K.lookup f5 = some ⟨oc5, od5, .func (PySem.W.fnOf "law" "law" (defArgs s_law) (defBody s_law) (defScope s_law) .none kV5 dc5 pm5 an5 cd5 ct5), sl5⟩)
    (c5 : PySem.W.codeIn K cd5 "law" = true) (k5 : PySem.W.keepIn K (.ref f5) = true)
    (A0 : PySem.W.nsIn K mainGlobals "BadName" = some (some (.ref D0)))
    (I0 : PySem.W.findIn K (.ref D0) "__init__" = some (some (.ref g0))) (T0 : PySem.W.typeIn K (.ref g0) = some (.type "function"))
    (L0 : K.lookup g0 = some ⟨Oc0, Od0, .func (PySem.W.fnOf "__init__" "BadName.__init__" (defArgs s_iBadName) (defBody s_iBadName) (defScope s_iBadName) .none KV0 Dc0 Pm0 An0 Cd0 Ct0), Sl0⟩)
    (C0 : PySem.W.codeIn K Cd0 "BadName.__init__" = true) (K0 : PySem.W.keepIn K (.ref g0) = true)
    (A1 : PySem.W.nsIn K mainGlobals "BadLetter" = some (some (.ref D1)))
    (I1 : PySem.W.findIn K (.ref D1) "__init__" = some (some (.ref g1))) (T1 : PySem.W.typeIn K (.ref g1) = some (.type "function"))
    (L1 : K.lookup g1 = some ⟨Oc1, Od1, .func (PySem.W.fnOf "__init__" "BadLetter.__init__" (defArgs s_iBadLetter) (defBody s_iBadLetter) (defScope s_iBadLetter) .none KV1 Dc1 Pm1 An1 Cd1 Ct1), Sl1⟩)
    (C1 : PySem.W.codeIn K Cd1 "BadLetter.__init__" = true) (K1 : PySem.W.keepIn K (.ref g1) = true)
    (A2 : PySem.W.nsIn K mainGlobals "BadAnswer" = some (some (.ref D2)))
    (I2 : PySem.W.findIn K (.ref D2) "__init__" = some (some (.ref g2))) (T2 : PySem.W.typeIn K (.ref g2) = some (.type "function"))
    (L2 : K.lookup g2 = some ⟨Oc2, Od2, .func (PySem.W.fnOf "__init__" "BadAnswer.__init__" (defArgs s_iBadAnswer) (defBody s_iBadAnswer) (defScope s_iBadAnswer) .none KV2 Dc2 Pm2 An2 Cd2 Ct2), Sl2⟩)
    (C2 : PySem.W.codeIn K Cd2 "BadAnswer.__init__" = true) (K2 : PySem.W.keepIn K (.ref g2) = true)
    (A3 : PySem.W.nsIn K mainGlobals "BadNumber" = some (some (.ref D3)))
    (I3 : PySem.W.findIn K (.ref D3) "__init__" = some (some (.ref g3))) (T3 : PySem.W.typeIn K (.ref g3) = some (.type "function"))
    (L3 : K.lookup g3 = some ⟨Oc3, Od3, .func (PySem.W.fnOf "__init__" "BadNumber.__init__" (defArgs s_iBadNumber) (defBody s_iBadNumber) (defScope s_iBadNumber) .none KV3 Dc3 Pm3 An3 Cd3 Ct3), Sl3⟩)
    (C3 : PySem.W.codeIn K Cd3 "BadNumber.__init__" = true) (K3 : PySem.W.keepIn K (.ref g3) = true)
    (A4 : PySem.W.nsIn K mainGlobals "BadWord" = some (some (.ref D4)))
    (I4 : PySem.W.findIn K (.ref D4) "__init__" = some (some (.ref g4))) (T4 : PySem.W.typeIn K (.ref g4) = some (.type "function"))
    (L4 : K.lookup g4 = some ⟨Oc4, Od4, .func (PySem.W.fnOf "__init__" "BadWord.__init__" (defArgs s_iBadWord) (defBody s_iBadWord) (defScope s_iBadWord) .none KV4 Dc4 Pm4 An4 Cd4 Ct4), Sl4⟩)
    (C4 : PySem.W.codeIn K Cd4 "BadWord.__init__" = true) (K4 : PySem.W.keepIn K (.ref g4) = true)
    (A5 : PySem.W.nsIn K mainGlobals "NoState" = some (some (.ref D5)))
    (I5 : PySem.W.findIn K (.ref D5) "__init__" = some (some (.ref g5))) (T5 : PySem.W.typeIn K (.ref g5) = some (.type "function"))
    (L5 : K.lookup g5 = some ⟨Oc5, Od5, .func (PySem.W.fnOf "__init__" "NoState.__init__" (defArgs s_iNoState) (defBody s_iNoState) (defScope s_iNoState) .none KV5 Dc5 Pm5 An5 Cd5 Ct5), Sl5⟩)
    (C5 : PySem.W.codeIn K Cd5 "NoState.__init__" = true) (K5 : PySem.W.keepIn K (.ref g5) = true)
    (A6 : PySem.W.nsIn K mainGlobals "NoCell" = some (some (.ref D6)))
    (I6 : PySem.W.findIn K (.ref D6) "__init__" = some (some (.ref g6))) (T6 : PySem.W.typeIn K (.ref g6) = some (.type "function"))
    (L6 : K.lookup g6 = some ⟨Oc6, Od6, .func (PySem.W.fnOf "__init__" "NoCell.__init__" (defArgs s_iNoCell) (defBody s_iNoCell) (defScope s_iNoCell) .none KV6 Dc6 Pm6 An6 Cd6 Ct6), Sl6⟩)
    (C6 : PySem.W.codeIn K Cd6 "NoCell.__init__" = true) (K6 : PySem.W.keepIn K (.ref g6) = true)
    (A7 : PySem.W.nsIn K mainGlobals "NoText" = some (some (.ref D7)))
    (I7 : PySem.W.findIn K (.ref D7) "__init__" = some (some (.ref g7))) (T7 : PySem.W.typeIn K (.ref g7) = some (.type "function"))
    (L7 : K.lookup g7 = some ⟨Oc7, Od7, .func (PySem.W.fnOf "__init__" "NoText.__init__" (defArgs s_iNoText) (defBody s_iNoText) (defScope s_iNoText) .none KV7 Dc7 Pm7 An7 Cd7 Ct7), Sl7⟩)
    (C7 : PySem.W.codeIn K Cd7 "NoText.__init__" = true) (K7 : PySem.W.keepIn K (.ref g7) = true)
    (A8 : PySem.W.nsIn K mainGlobals "Taken" = some (some (.ref D8)))
    (I8 : PySem.W.findIn K (.ref D8) "__init__" = some (some (.ref g8))) (T8 : PySem.W.typeIn K (.ref g8) = some (.type "function"))
    (L8 : K.lookup g8 = some ⟨Oc8, Od8, .func (PySem.W.fnOf "__init__" "Taken.__init__" (defArgs s_iTaken) (defBody s_iTaken) (defScope s_iTaken) .none KV8 Dc8 Pm8 An8 Cd8 Ct8), Sl8⟩)
    (C8 : PySem.W.codeIn K Cd8 "Taken.__init__" = true) (K8 : PySem.W.keepIn K (.ref g8) = true)
    (A9 : PySem.W.nsIn K mainGlobals "BadConverter" = some (some (.ref D9)))
    (I9 : PySem.W.findIn K (.ref D9) "__init__" = some (some (.ref g9))) (T9 : PySem.W.typeIn K (.ref g9) = some (.type "function"))
    (L9 : K.lookup g9 = some ⟨Oc9, Od9, .func (PySem.W.fnOf "__init__" "BadConverter.__init__" (defArgs s_iBadConverter) (defBody s_iBadConverter) (defScope s_iBadConverter) .none KV9 Dc9 Pm9 An9 Cd9 Ct9), Sl9⟩)
    (C9 : PySem.W.codeIn K Cd9 "BadConverter.__init__" = true) (K9 : PySem.W.keepIn K (.ref g9) = true)
    (A10 : PySem.W.nsIn K mainGlobals "BadGrowth" = some (some (.ref D10)))
    (I10 : PySem.W.findIn K (.ref D10) "__init__" = some (some (.ref g10))) (T10 : PySem.W.typeIn K (.ref g10) = some (.type "function"))
    (L10 : K.lookup g10 = some ⟨Oc10, Od10, .func (PySem.W.fnOf "__init__" "BadGrowth.__init__" (defArgs s_iBadGrowth) (defBody s_iBadGrowth) (defScope s_iBadGrowth) .none KV10 Dc10 Pm10 An10 Cd10 Ct10), Sl10⟩)
    (C10 : PySem.W.codeIn K Cd10 "BadGrowth.__init__" = true) (K10 : PySem.W.keepIn K (.ref g10) = true)
    (A11 : PySem.W.nsIn K mainGlobals "BadPaper" = some (some (.ref D11)))
    (I11 : PySem.W.findIn K (.ref D11) "__init__" = some (some (.ref g11))) (T11 : PySem.W.typeIn K (.ref g11) = some (.type "function"))
    (L11 : K.lookup g11 = some ⟨Oc11, Od11, .func (PySem.W.fnOf "__init__" "BadPaper.__init__" (defArgs s_iBadPaper) (defBody s_iBadPaper) (defScope s_iBadPaper) .none KV11 Dc11 Pm11 An11 Cd11 Ct11), Sl11⟩)
    (C11 : PySem.W.codeIn K Cd11 "BadPaper.__init__" = true) (K11 : PySem.W.keepIn K (.ref g11) = true)
    (A12 : PySem.W.nsIn K mainGlobals "BadArray" = some (some (.ref D12)))
    (I12 : PySem.W.findIn K (.ref D12) "__init__" = some (some (.ref g12))) (T12 : PySem.W.typeIn K (.ref g12) = some (.type "function"))
    (L12 : K.lookup g12 = some ⟨Oc12, Od12, .func (PySem.W.fnOf "__init__" "BadArray.__init__" (defArgs s_iBadArray) (defBody s_iBadArray) (defScope s_iBadArray) .none KV12 Dc12 Pm12 An12 Cd12 Ct12), Sl12⟩)
    (C12 : PySem.W.codeIn K Cd12 "BadArray.__init__" = true) (K12 : PySem.W.keepIn K (.ref g12) = true)
    (A13 : PySem.W.nsIn K mainGlobals "BadDeed" = some (some (.ref D13)))
    (I13 : PySem.W.findIn K (.ref D13) "__init__" = some (some (.ref g13))) (T13 : PySem.W.typeIn K (.ref g13) = some (.type "function"))
    (L13 : K.lookup g13 = some ⟨Oc13, Od13, .func (PySem.W.fnOf "__init__" "BadDeed.__init__" (defArgs s_iBadDeed) (defBody s_iBadDeed) (defScope s_iBadDeed) .none KV13 Dc13 Pm13 An13 Cd13 Ct13), Sl13⟩)
    (C13 : PySem.W.codeIn K Cd13 "BadDeed.__init__" = true) (K13 : PySem.W.keepIn K (.ref g13) = true)
    (A14 : PySem.W.nsIn K mainGlobals "BadLog" = some (some (.ref D14)))
    (I14 : PySem.W.findIn K (.ref D14) "__init__" = some (some (.ref g14))) (T14 : PySem.W.typeIn K (.ref g14) = some (.type "function"))
    (L14 : K.lookup g14 = some ⟨Oc14, Od14, .func (PySem.W.fnOf "__init__" "BadLog.__init__" (defArgs s_iBadLog) (defBody s_iBadLog) (defScope s_iBadLog) .none KV14 Dc14 Pm14 An14 Cd14 Ct14), Sl14⟩)
    (C14 : PySem.W.codeIn K Cd14 "BadLog.__init__" = true) (K14 : PySem.W.keepIn K (.ref g14) = true)
    (A15 : PySem.W.nsIn K mainGlobals "NoTail" = some (some (.ref D15)))
    (I15 : PySem.W.findIn K (.ref D15) "__init__" = some (some (.ref g15))) (T15 : PySem.W.typeIn K (.ref g15) = some (.type "function"))
    (L15 : K.lookup g15 = some ⟨Oc15, Od15, .func (PySem.W.fnOf "__init__" "NoTail.__init__" (defArgs s_iNoTail) (defBody s_iNoTail) (defScope s_iNoTail) .none KV15 Dc15 Pm15 An15 Cd15 Ct15), Sl15⟩)
    (C15 : PySem.W.codeIn K Cd15 "NoTail.__init__" = true) (K15 : PySem.W.keepIn K (.ref g15) = true)
    (A16 : PySem.W.nsIn K mainGlobals "RunOver" = some (some (.ref D16)))
    (I16 : PySem.W.findIn K (.ref D16) "__init__" = some (some (.ref g16))) (T16 : PySem.W.typeIn K (.ref g16) = some (.type "function"))
    (L16 : K.lookup g16 = some ⟨Oc16, Od16, .func (PySem.W.fnOf "__init__" "RunOver.__init__" (defArgs s_iRunOver) (defBody s_iRunOver) (defScope s_iRunOver) .none KV16 Dc16 Pm16 An16 Cd16 Ct16), Sl16⟩)
    (C16 : PySem.W.codeIn K Cd16 "RunOver.__init__" = true) (K16 : PySem.W.keepIn K (.ref g16) = true)
    (A17 : PySem.W.nsIn K mainGlobals "NoRoom" = some (some (.ref D17)))
    (I17 : PySem.W.findIn K (.ref D17) "__init__" = some (some (.ref g17))) (T17 : PySem.W.typeIn K (.ref g17) = some (.type "function"))
    (L17 : K.lookup g17 = some ⟨Oc17, Od17, .func (PySem.W.fnOf "__init__" "NoRoom.__init__" (defArgs s_iNoRoom) (defBody s_iNoRoom) (defScope s_iNoRoom) .none KV17 Dc17 Pm17 An17 Cd17 Ct17), Sl17⟩)
    (C17 : PySem.W.codeIn K Cd17 "NoRoom.__init__" = true) (K17 : PySem.W.keepIn K (.ref g17) = true)
    (A18 : PySem.W.nsIn K mainGlobals "BadCommand" = some (some (.ref D18)))
    (I18 : PySem.W.findIn K (.ref D18) "__init__" = some (some (.ref g18))) (T18 : PySem.W.typeIn K (.ref g18) = some (.type "function"))
    (L18 : K.lookup g18 = some ⟨Oc18, Od18, .func (PySem.W.fnOf "__init__" "BadCommand.__init__" (defArgs s_iBadCommand) (defBody s_iBadCommand) (defScope s_iBadCommand) .none KV18 Dc18 Pm18 An18 Cd18 Ct18), Sl18⟩)
    (C18 : PySem.W.codeIn K Cd18 "BadCommand.__init__" = true) (K18 : PySem.W.keepIn K (.ref g18) = true)
    (A19 : PySem.W.nsIn K mainGlobals "BadText" = some (some (.ref D19)))
    (I19 : PySem.W.findIn K (.ref D19) "__init__" = some (some (.ref g19))) (T19 : PySem.W.typeIn K (.ref g19) = some (.type "function"))
    (L19 : K.lookup g19 = some ⟨Oc19, Od19, .func (PySem.W.fnOf "__init__" "BadText.__init__" (defArgs s_iBadText) (defBody s_iBadText) (defScope s_iBadText) .none KV19 Dc19 Pm19 An19 Cd19 Ct19), Sl19⟩)
    (C19 : PySem.W.codeIn K Cd19 "BadText.__init__" = true) (K19 : PySem.W.keepIn K (.ref g19) = true)
    (A20 : PySem.W.nsIn K mainGlobals "NoStep" = some (some (.ref D20)))
    (I20 : PySem.W.findIn K (.ref D20) "__init__" = some (some (.ref g20))) (T20 : PySem.W.typeIn K (.ref g20) = some (.type "function"))
    (L20 : K.lookup g20 = some ⟨Oc20, Od20, .func (PySem.W.fnOf "__init__" "NoStep.__init__" (defArgs s_iNoStep) (defBody s_iNoStep) (defScope s_iNoStep) .none KV20 Dc20 Pm20 An20 Cd20 Ct20), Sl20⟩)
    (C20 : PySem.W.codeIn K Cd20 "NoStep.__init__" = true) (K20 : PySem.W.keepIn K (.ref g20) = true)
    (A21 : PySem.W.nsIn K mainGlobals "TooMany" = some (some (.ref D21)))
    (I21 : PySem.W.findIn K (.ref D21) "__init__" = some (some (.ref g21))) (T21 : PySem.W.typeIn K (.ref g21) = some (.type "function"))
    (L21 : K.lookup g21 = some ⟨Oc21, Od21, .func (PySem.W.fnOf "__init__" "TooMany.__init__" (defArgs s_iTooMany) (defBody s_iTooMany) (defScope s_iTooMany) .none KV21 Dc21 Pm21 An21 Cd21 Ct21), Sl21⟩)
    (C21 : PySem.W.codeIn K Cd21 "TooMany.__init__" = true) (K21 : PySem.W.keepIn K (.ref g21) = true)
    : ∃ fd : FuncData, (∀ (s : Shared) (u : Value), BindsTo s fd ⟨[u], []⟩ [("_law_script", u)]) ∧ ∀ base : Heap, K.In base → base.Ns mainGlobals mg →
      FnG P w K mg base CX0 4 fa fd ["_law_script"] (spLaw K) := by
  have d0 : OwnD K mg "_law_pen" s_lpen ["_law_script"] := own_mk X G a0 l0 c0 k0 (fun _ _ _ _ _ _ us hl => match us, hl with | [_], _ => rfl)
  have d1 : OwnD K mg "_law_draw" s_ldraw ["_law_pen_here", "_law_many"] := own_mk X G a1 l1 c1 k1 (fun _ _ _ _ _ _ us hl => match us, hl with | [_, _], _ => rfl)
  have d2 : OwnD K mg "_law_pick" s_lpick ["_law_pen_here", "_law_some"] := own_mk X G a2 l2 c2 k2 (fun _ _ _ _ _ _ us hl => match us, hl with | [_, _], _ => rfl)
  have d3 : OwnD K mg "_law_made" s_lmade ["_law_x", "_law_y"] := own_mk X G a3 l3 c3 k3 (fun _ _ _ _ _ _ us hl => match us, hl with | [_, _], _ => rfl)
  have d4 : OwnD K mg "_law_fields" s_lfields ["_law_error"] := own_mk X G a4 l4 c4 k4 (fun _ _ _ _ _ _ us hl => match us, hl with | [_], _ => rfl)
  have d5 : OwnD K mg "law" s_law ["_law_script"] := own_mk X G a5 l5 c5 k5 (fun _ _ _ _ _ _ us hl => match us, hl with | [_], _ => rfl)
  have e0 : IniK K mg "BadName" "BadName.__init__" s_iBadName := ini_mk X G (chk_cls c _ (by decide : errOf "BadName" ∈ errs)) (by decide) A0 I0 T0 L0 C0 K0
  have e1 : IniK K mg "BadLetter" "BadLetter.__init__" s_iBadLetter := ini_mk X G (chk_cls c _ (by decide : errOf "BadLetter" ∈ errs)) (by decide) A1 I1 T1 L1 C1 K1
  have e2 : IniK K mg "BadAnswer" "BadAnswer.__init__" s_iBadAnswer := ini_mk X G (chk_cls c _ (by decide : errOf "BadAnswer" ∈ errs)) (by decide) A2 I2 T2 L2 C2 K2
  have e3 : IniK K mg "BadNumber" "BadNumber.__init__" s_iBadNumber := ini_mk X G (chk_cls c _ (by decide : errOf "BadNumber" ∈ errs)) (by decide) A3 I3 T3 L3 C3 K3
  have e4 : IniK K mg "BadWord" "BadWord.__init__" s_iBadWord := ini_mk X G (chk_cls c _ (by decide : errOf "BadWord" ∈ errs)) (by decide) A4 I4 T4 L4 C4 K4
  have e5 : IniK K mg "NoState" "NoState.__init__" s_iNoState := ini_mk X G (chk_cls c _ (by decide : errOf "NoState" ∈ errs)) (by decide) A5 I5 T5 L5 C5 K5
  have e6 : IniK K mg "NoCell" "NoCell.__init__" s_iNoCell := ini_mk X G (chk_cls c _ (by decide : errOf "NoCell" ∈ errs)) (by decide) A6 I6 T6 L6 C6 K6
  have e7 : IniK K mg "NoText" "NoText.__init__" s_iNoText := ini_mk X G (chk_cls c _ (by decide : errOf "NoText" ∈ errs)) (by decide) A7 I7 T7 L7 C7 K7
  have e8 : IniK K mg "Taken" "Taken.__init__" s_iTaken := ini_mk X G (chk_cls c _ (by decide : errOf "Taken" ∈ errs)) (by decide) A8 I8 T8 L8 C8 K8
  have e9 : IniK K mg "BadConverter" "BadConverter.__init__" s_iBadConverter := ini_mk X G (chk_cls c _ (by decide : errOf "BadConverter" ∈ errs)) (by decide) A9 I9 T9 L9 C9 K9
  have e10 : IniK K mg "BadGrowth" "BadGrowth.__init__" s_iBadGrowth := ini_mk X G (chk_cls c _ (by decide : errOf "BadGrowth" ∈ errs)) (by decide) A10 I10 T10 L10 C10 K10
  have e11 : IniK K mg "BadPaper" "BadPaper.__init__" s_iBadPaper := ini_mk X G (chk_cls c _ (by decide : errOf "BadPaper" ∈ errs)) (by decide) A11 I11 T11 L11 C11 K11
  have e12 : IniK K mg "BadArray" "BadArray.__init__" s_iBadArray := ini_mk X G (chk_cls c _ (by decide : errOf "BadArray" ∈ errs)) (by decide) A12 I12 T12 L12 C12 K12
  have e13 : IniK K mg "BadDeed" "BadDeed.__init__" s_iBadDeed := ini_mk X G (chk_cls c _ (by decide : errOf "BadDeed" ∈ errs)) (by decide) A13 I13 T13 L13 C13 K13
  have e14 : IniK K mg "BadLog" "BadLog.__init__" s_iBadLog := ini_mk X G (chk_cls c _ (by decide : errOf "BadLog" ∈ errs)) (by decide) A14 I14 T14 L14 C14 K14
  have e15 : IniK K mg "NoTail" "NoTail.__init__" s_iNoTail := ini_mk X G (chk_cls c _ (by decide : errOf "NoTail" ∈ errs)) (by decide) A15 I15 T15 L15 C15 K15
  have e16 : IniK K mg "RunOver" "RunOver.__init__" s_iRunOver := ini_mk X G (chk_cls c _ (by decide : errOf "RunOver" ∈ errs)) (by decide) A16 I16 T16 L16 C16 K16
  have e17 : IniK K mg "NoRoom" "NoRoom.__init__" s_iNoRoom := ini_mk X G (chk_cls c _ (by decide : errOf "NoRoom" ∈ errs)) (by decide) A17 I17 T17 L17 C17 K17
  have e18 : IniK K mg "BadCommand" "BadCommand.__init__" s_iBadCommand := ini_mk X G (chk_cls c _ (by decide : errOf "BadCommand" ∈ errs)) (by decide) A18 I18 T18 L18 C18 K18
  have e19 : IniK K mg "BadText" "BadText.__init__" s_iBadText := ini_mk X G (chk_cls c _ (by decide : errOf "BadText" ∈ errs)) (by decide) A19 I19 T19 L19 C19 K19
  have e20 : IniK K mg "NoStep" "NoStep.__init__" s_iNoStep := ini_mk X G (chk_cls c _ (by decide : errOf "NoStep" ∈ errs)) (by decide) A20 I20 T20 L20 C20 K20
  have e21 : IniK K mg "TooMany" "TooMany.__init__" s_iTooMany := ini_mk X G (chk_cls c _ (by decide : errOf "TooMany" ∈ errs)) (by decide) A21 I21 T21 L21 C21 K21
  have T : Txt K mg := txt_mk X G c d0 d1 d2 d3 d4 d5 e0 e1 e2 e3 e4 e5 e6 e7 e8 e9 e10 e11 e12 e13 e14 e15 e16 e17 e18 e19 e20 e21
  have F := fun_mk (st := s_law) l5 c5 k5
  obtain rfl : f5 = fa := Value.ref.inj (Option.some.inj ((PySem.W.mg_of X G a5).symm.trans hmg))
  exact ⟨_, fun s v => .of_eq rfl, fun base _ _ => law_g T F⟩
end KK

open PySem PySem.W PyProof.Rows L2 in
set_option maxRecDepth 100000 in
set_option maxHeartbeats 0 in
theorem PySem.Challenge.cw_headgap_k01_errors_made_holds : PySem.Challenge.rw_headgap_k01_errors_made.Holds := by
  w_on; o_law; k_head; (case hw => w_witness2)
  k_fill
  refine L2.walk_ofG (n := 63) (k := 4) (x := "_law_script") (sp := KK.spLaw)
    (l := PySem.Challenge.rw_headgap_k01_errors_made) rfl (by decide) rfl ⟨rfl, by decide, by decide⟩ (fun w h Y => PySem.W.kIn_of Y) ?F ?S
  case F =>
    intro w mg fa h KX G hmg
    refine' KK.fin_mk KX G hmg ?c ?a0 ?l0 ?c0 ?k0 ?a1 ?l1 ?c1 ?k1 ?a2 ?l2 ?c2 ?k2 ?a3 ?l3 ?c3 ?k3 ?a4 ?l4 ?c4 ?k4 ?a5 ?l5 ?c5 ?k5 ?A0 ?I0 ?T0 ?L0 ?C0 ?K0 ?A1 ?I1 ?T1 ?L1 ?C1 ?K1 ?A2 ?I2 ?T2 ?L2 ?C2 ?K2 ?A3 ?I3 ?T3 ?L3 ?C3 ?K3 ?A4 ?I4 ?T4 ?L4 ?C4 ?K4 ?A5 ?I5 ?T5 ?L5 ?C5 ?K5 ?A6 ?I6 ?T6 ?L6 ?C6 ?K6 ?A7 ?I7 ?T7 ?L7 ?C7 ?K7 ?A8 ?I8 ?T8 ?L8 ?C8 ?K8 ?A9 ?I9 ?T9 ?L9 ?C9 ?K9 ?A10 ?I10 ?T10 ?L10 ?C10 ?K10 ?A11 ?I11 ?T11 ?L11 ?C11 ?K11 ?A12 ?I12 ?T12 ?L12 ?C12 ?K12 ?A13 ?I13 ?T13 ?L13 ?C13 ?K13 ?A14 ?I14 ?T14 ?L14 ?C14 ?K14 ?A15 ?I15 ?T15 ?L15 ?C15 ?K15 ?A16 ?I16 ?T16 ?L16 ?C16 ?K16 ?A17 ?I17 ?T17 ?L17 ?C17 ?K17 ?A18 ?I18 ?T18 ?L18 ?C18 ?K18 ?A19 ?I19 ?T19 ?L19 ?C19 ?K19 ?A20 ?I20 ?T20 ?L20 ?C20 ?K20 ?A21 ?I21 ?T21 ?L21 ?C21 ?K21
    (case c => kernel_rfl)
    (case a0 => k_is)
    (case l0 => k_is)
    (case c0 => k_is)
    (case k0 => k_is)
    (case a1 => k_is)
    (case l1 => k_is)
    (case c1 => k_is)
    (case k1 => k_is)
    (case a2 => k_is)
    (case l2 => k_is)
    (case c2 => k_is)
    (case k2 => k_is)
    (case a3 => k_is)
    (case l3 => k_is)
    (case c3 => k_is)
    (case k3 => k_is)
    (case a4 => k_is)
    (case l4 => k_is)
    (case c4 => k_is)
    (case k4 => k_is)
    (case a5 => k_is)
    (case l5 => k_is)
    (case c5 => k_is)
    (case k5 => k_is)
    (case A0 => k_is)
    (case I0 => k_is)
    (case T0 => k_is)
    (case L0 => k_is)
    (case C0 => k_is)
    (case K0 => k_is)
    (case A1 => k_is)
    (case I1 => k_is)
    (case T1 => k_is)
    (case L1 => k_is)
    (case C1 => k_is)
    (case K1 => k_is)
    (case A2 => k_is)
    (case I2 => k_is)
    (case T2 => k_is)
    (case L2 => k_is)
    (case C2 => k_is)
    (case K2 => k_is)
    (case A3 => k_is)
    (case I3 => k_is)
    (case T3 => k_is)
    (case L3 => k_is)
    (case C3 => k_is)
    (case K3 => k_is)
    (case A4 => k_is)
    (case I4 => k_is)
    (case T4 => k_is)
    (case L4 => k_is)
    (case C4 => k_is)
    (case K4 => k_is)
    (case A5 => k_is)
    (case I5 => k_is)
    (case T5 => k_is)
    (case L5 => k_is)
    (case C5 => k_is)
    (case K5 => k_is)
    (case A6 => k_is)
    (case I6 => k_is)
    (case T6 => k_is)
    (case L6 => k_is)
    (case C6 => k_is)
    (case K6 => k_is)
    (case A7 => k_is)
    (case I7 => k_is)
    (case T7 => k_is)
    (case L7 => k_is)
    (case C7 => k_is)
    (case K7 => k_is)
    (case A8 => k_is)
    (case I8 => k_is)
    (case T8 => k_is)
    (case L8 => k_is)
    (case C8 => k_is)
    (case K8 => k_is)
    (case A9 => k_is)
    (case I9 => k_is)
    (case T9 => k_is)
    (case L9 => k_is)
    (case C9 => k_is)
    (case K9 => k_is)
    (case A10 => k_is)
    (case I10 => k_is)
    (case T10 => k_is)
    (case L10 => k_is)
    (case C10 => k_is)
    (case K10 => k_is)
    (case A11 => k_is)
    (case I11 => k_is)
    (case T11 => k_is)
    (case L11 => k_is)
    (case C11 => k_is)
    (case K11 => k_is)
    (case A12 => k_is)
    (case I12 => k_is)
    (case T12 => k_is)
    (case L12 => k_is)
    (case C12 => k_is)
    (case K12 => k_is)
    (case A13 => k_is)
    (case I13 => k_is)
    (case T13 => k_is)
    (case L13 => k_is)
    (case C13 => k_is)
    (case K13 => k_is)
    (case A14 => k_is)
    (case I14 => k_is)
    (case T14 => k_is)
    (case L14 => k_is)
    (case C14 => k_is)
    (case K14 => k_is)
    (case A15 => k_is)
    (case I15 => k_is)
    (case T15 => k_is)
    (case L15 => k_is)
    (case C15 => k_is)
    (case K15 => k_is)
    (case A16 => k_is)
    (case I16 => k_is)
    (case T16 => k_is)
    (case L16 => k_is)
    (case C16 => k_is)
    (case K16 => k_is)
    (case A17 => k_is)
    (case I17 => k_is)
    (case T17 => k_is)
    (case L17 => k_is)
    (case C17 => k_is)
    (case K17 => k_is)
    (case A18 => k_is)
    (case I18 => k_is)
    (case T18 => k_is)
    (case L18 => k_is)
    (case C18 => k_is)
    (case K18 => k_is)
    (case A19 => k_is)
    (case I19 => k_is)
    (case T19 => k_is)
    (case L19 => k_is)
    (case C19 => k_is)
    (case K19 => k_is)
    (case A20 => k_is)
    (case I20 => k_is)
    (case T20 => k_is)
    (case L20 => k_is)
    (case C20 => k_is)
    (case K20 => k_is)
    (case A21 => k_is)
    (case I21 => k_is)
    (case T21 => k_is)
    (case L21 => k_is)
    (case C21 => k_is)
    (case K21 => k_is)
  case S => exact fun K H a ns hl _ hS => ⟨a, ns, rfl, hS, hl, fun _ => rfl⟩
#print axioms PySem.Challenge.cw_headgap_k01_errors_made_holds
