import PyProof.Rows.All
import HandS.StrMore
import Wide.All
import OpenK.AllK
import Wide.FinOn
import HandS.ExcInit
import HandS.Words
import HandS.List
import KE.KExcIs
import PyProof.ReprRoads
import HandS.Ends
import HandS.ExcValue
import HandS.IsInst
import HandS.Property
import HandS.ClsMeth
import HandS.Gcd
import HandS.ForMost
import KE.DataMinMax
import HandS.SortKw
import HandS.Defaults
import KE.KOpsOwn
import PyProof.InstNe
import HandS.Wide
import HandS.OwnEq
import HandS.MakeKwOnly
import HandS.Walk
import HandS.Iter
import HandS.Text
import HandS.DictComp
import PyProof.Draws
import PyProof.EnumMake
import HandS.TryOnly
import HandS.ExcField
import HandS.Lambda
import HandS.WordsExc
import HandS.MakeKw
import PyProof.CallFns
import KE.KDictDisplayH
import HandS.EndTab
import OpenK.KMeth
import HandS.DeepEq
import KE.KEqNest
import HandS.Star
import OpenK.KOps
import KE.GoesMore
import PyProof.EqKinds
import PyProof.ListStr
import HandS.TupAny
import HandS.Zip
import PySem.Challenge.RW_headgap_k25_runs_of_texts
import HandS.RaiseMore
import HandS.Small
set_option Elab.async false
set_option linter.all false
set_option maxRecDepth 100000
set_option maxHeartbeats 4000000
/-! own rules 1: exceptions with an own __init__ as values, made with positional values and keywords -/
namespace PySem
namespace KU
open PySem.W PySem.Calls PyProof.Rows PySem.HandSPX
section
variable {M : Model} {prog : Program} {w : World} {A : Around} {E : Value → Shared → Prop} {R : Result → Shared → Prop}
  {h : Heap} {g : Array GenState} {d : Drawn} {t : Nat} {os : OsState}
variable {nm q : Str} {C N : Addr} {bs bm bmB : List Value} {hdct : Bool} {sn : List Str} {sub : List Value} {ab : Bool}
  {col : Option Bool} {dd : Option Addr} {k0 k1 k2 k3 k5 : Option Value} {B newId initId : String}
theorem ck_new (F : ExcBaseFacts B newId initId bmB)
    (hT : ∀ Y : String, bm.contains (.type Y) = bmB.contains (.type Y)) {us : List Value} {kw : List (Str × Value)}
    {Q : Unit → Shared → Prop}
    (hC : h.get? C = some (excClassObj nm q C N bs bm hdct sn sub ab col dd k0 k1 k2 k3 k5 newId))
    (hq : Q () ⟨h, g, d, t, os⟩) :
    wpAny M A (checkBuiltinCall newId ⟨.ref C :: us, kw⟩) Q E ⟨h, g, d, t, os⟩ := by
  have inB : (Value.ref C :: bm).contains (.type B) = true := by
    rw [List.contains_cons, hT, F.hasB, Bool.or_true]
  have ns := F.noStar
  simp only [checkBuiltinCall, F.newKind, F.newSplit, F.newRow]
  repeat (first
    | refine wpAny_loadPart_at hC ?_
    | (refine wpAny_isSubtype_exc hC ?_; rw [inB])
    | refine wpAny_staticBase_exc hC ?_
    | refine wpAny_madeBy_exc hC ?_
    | simp only [bne_self_eq_false, Bool.false_eq_true, if_false]
    | wp_step)
  exact hq
theorem newK (F : ExcBaseFacts B newId initId bmB)
    (hT : ∀ Y : String, bm.contains (.type Y) = bmB.contains (.type Y)) {us : List Value} {kw : List (Str × Value)}
    (hC : h.get? C = some (excClassObj nm q C N bs bm hdct sn sub ab col dd k0 k1 k2 k3 k5 newId))
    (hus : us.length ≤ sizeLine)
    (hq : R (.ok (.ret (.ref (h.objs.size + 1)))) ⟨(h.push (W.kdv_tup us)).push (excO C h.objs.size), g, d, t, os⟩) :
    codeAny (model prog w) A (.builtin newId ⟨.ref C :: us, kw⟩) R ⟨h, g, d, t, os⟩ := by
  have en := F.ends
  have inB : (Value.ref C :: bm).contains (.type B) = true := by
    rw [List.contains_cons, hT, F.hasB, Bool.or_true]
  have inA : (Value.ref C :: bm).contains (.type "AttributeError") = false := by
    rw [List.contains_cons, hT, F.noAttr]; rfl
  have inN : (Value.ref C :: bm).contains (.type "NameError") = false := by
    rw [List.contains_cons, hT, F.noName]; rfl
  refine codeAny_builtinAt F.entry ?_
  unfold Builtin.«BaseException.__new__»
  refine wpAt_bind ?_
  show wpAt _ _ _ (stack >>= _) _ _ _
  refine wpAt_bind (wpAt_stack fun p below => wpAt_of_wpAny ?_)
  wp_walk
  refine wpAt_of_wpAny ?_
  rw [F.owner]
  repeat (first
    | with_reducible refine wpAny_madeHere_exc F.canon hC ?_
    | with_reducible refine wpAny_loadPart_at hC ?_
    | (with_reducible refine wpAny_isSubtype_exc hC ?_
       first | rw [inB] | rw [inA] | rw [inN])
    | wp_step)
  show R _ _
  rw [Heap.size_push]
  exact hq
theorem tcallK (F : ExcBaseFacts B newId initId bmB)
    (hT : ∀ Y : String, bm.contains (.type Y) = bmB.contains (.type Y)) {us : List Value} {kw : List (Str × Value)}
    {fI : Addr} {Q : Fin → Shared → Prop}
    (hC : h.get? C = some (excClassObj nm q C N bs bm hdct sn sub ab col dd k0 k1 k2 k3 k5 newId))
    (hi : W.Looks (model prog w) h (typeLookup (.ref C) "__init__") (some (.ref fI)))
    (hb : ∀ self, W.Looks (model prog w) h (bindSpecial (.ref fI) self) (.ref fI, [self]))
    (hus : us.length ≤ sizeLine)
    (hq : codeAny (model prog w) A (.call (.ref fI) ⟨.ref (h.objs.size + 1) :: us, kw⟩)
      (fun r s' => match r with
        | .ok (.ret v) => v = .none ∧ Q (.done (.ret (.ref (h.objs.size + 1)))) s'
        | .ok _ => False
        | .error e => E e s')
      ⟨(h.push (W.kdv_tup us)).push (excO C h.objs.size), g, d, t, os⟩) :
    wpAny (model prog w) A (Builtin.«type.__call__» ⟨.ref C :: us, kw⟩) Q E ⟨h, g, d, t, os⟩ := by
  repeat (first
    | with_reducible refine wpAny_loadPart_at hC ?_
    | with_reducible refine wpAny_madeBy_exc hC ?_
    | wp_step)
  refine codeAny_call_builtin_code (Code.quiet_builtin _ F.quiet) (ck_new F hT hC ?_)
  refine newK F hT hC hus ?_
  show wpAny _ _ _ _ _ _
  have k : ∀ b o, h.get? b = some o →
      ((h.push (W.kdv_tup us)).push (excO C h.objs.size)).get? b = some o := fun b o e =>
    Heap.get?_push_of_some _ (Heap.get?_push_of_some _ e)
  have hC1 := k _ _ hC
  have hg : ((h.push (W.kdv_tup us)).push (excO C h.objs.size)).get? (h.objs.size + 1) =
    some (excO C h.objs.size) := by heap_get
  have inC : (Value.ref C :: bm).contains (.ref C) = true := by simp
  have i1 := hi.keeps k
  have b1 := (hb (.ref (h.objs.size + 1))).keeps k
  unfold isInstance
  repeat (first
    | with_reducible refine wpAny_loadPart_at hg ?_
    | (with_reducible refine wpAny_isSubtype_exc hC1 ?_
       rw [inC])
    | wp_step)
  show wpAny _ _ (typeLookup (.ref C) _) _ _ _
  refine i1.at ?_
  refine wpAny_holding (wpAny_bind (b1.at ?_))
  refine wpAny_bind (wpAny_call (codeAny_mono hq fun r s' z => ?_))
  rcases r with e | (v | _ | _ | _) <;> first | exact z | exact z.elim | skip
  obtain ⟨rfl, z⟩ := z
  first
    | exact wpAny_pure (wpAny_pure z)
    | (wp_walk; exact z)
theorem callK (F : ExcBaseFacts B newId initId bmB)
    (hT : ∀ Y : String, bm.contains (.type Y) = bmB.contains (.type Y)) {us : List Value} {kw : List (Str × Value)}
    {fI : Addr}
    (hC : h.get? C = some (excClassObj nm q C N bs bm hdct sn sub ab col dd k0 k1 k2 k3 k5 newId))
    (hi : W.Looks (model prog w) h (typeLookup (.ref C) "__init__") (some (.ref fI)))
    (hb : ∀ self, W.Looks (model prog w) h (bindSpecial (.ref fI) self) (.ref fI, [self]))
    (hus : us.length ≤ sizeLine)
    (hq : codeAny (model prog w) (A.under (.builtin "type.__call__" ⟨.ref C :: us, kw⟩))
      (.call (.ref fI) ⟨.ref (h.objs.size + 1) :: us, kw⟩) (W.InitBack (h.objs.size + 1) R)
      ⟨(h.push (W.kdv_tup us)).push (excO C h.objs.size), g, d, t, os⟩) :
    codeAny (model prog w) A (.call (.ref C) ⟨us, kw⟩) R ⟨h, g, d, t, os⟩ := by
  have l1 := tc_lookup
  have l2 := tc_bind (.ref C)
  have ty : (⟨h, g, d, t, os⟩ : Shared).TypeIs (.ref C) "type" := ⟨_, hC, rfl⟩
  refine codeAny_of_tree ?_
  show wpAny _ _ (callAny (.ref C) _) _ _ _
  repeat (any_goals (first
    | assumption
    | with_reducible refine wpAny_loadPart_at hC ?_
    | wp_step))
  refine ⟨rfl, ?_⟩
  refine codeAny_call_builtin_at (Code.quiet_builtin _ (by decide +kernel)) entry_typeCall
    (wpAny_check_type_call_sub hC (tcallK F hT hC hi hb hus ?_))
  refine codeAny_mono hq fun r s' z => ?_
  rcases r with e | (v | _ | _ | _) <;> exact z
end
end KU
end PySem

/-! own rules 2: C(..) of an own exception class as a value, over the layer -/
namespace L2
open PySem PySem.Spec PyProof.Rows
/-- C(.., k = ..) as a value -/
def tMkX (C : Addr) (sp : Sp) (gv : List V → List V) (ta : TA) : TE := fun σ H Q => ta σ H fun vs H1 =>
  vs.length ≤ 1000 ∧ ∀ a, H1 a = none → sp (.ref a :: gv vs) (upd H1 a (exo a C none))
    (fun v H2 => v = .non ∧ Q (.ref a) H2) E0
/-- the class's facts -/
structure XMk (K : PySem.W.Frag) (C fI : Addr) : Prop where
  T : OexC K C
  ini : PySem.W.findIn K (.ref C) "__init__" = some (some (.ref fI))
  ty : PySem.W.typeIn K (.ref fI) = some (.type "function")
section
variable {X : Cx} {C fI : Addr} {k : Nat} {fd : FuncData} {ps : List Str} {sp : Sp}
theorem run_mkx {pins : List (Addr × Obj)} {σ : St} {H : Hp} {s : Shared} {Q : VK} {us ws : List Value} {vs : List V}
    {kw : List (Str × Value)} (M : XMk X.K C fI) (F1 : FnOk X.prog X.w X.K X.mg X.base CX0 k fI fd ps sp)
    (hr : Room (k + 1) X.A) (I : Inv X pins σ H s) (r : Vals vs ws)
    (hb : ∀ (s' : Shared) (a : Addr), X.K.In s'.heap → BindsTo s' fd ⟨.ref a :: us, kw⟩ (ps.zip (.ref a :: ws)))
    (hus : us.length ≤ sizeLine)
    (h : ∀ a, H a = none → sp (.ref a :: vs) (upd H a (exo a C none)) (fun v H2 => v = .non ∧ Q (.ref a) H2) E0) :
    wpAny (model X.prog X.w) X.A (call (.ref C) us kw) (EP X pins σ Q) X.xe s := by
  obtain ⟨nm, q, N, bs, bm, sn, sub, ab, col, dd, k0, k1, k2, k3, k5, hC, hbm⟩ := M.T.cls
  obtain ⟨hp, g, dr, tk, os⟩ := s
  have up : hp.objs.size ≤ hp.objs.size + 1 := Nat.le_succ _
  have hq := h (hp.objs.size + 1) (I.hok.fresh up)
  have kk : ∀ b o, hp.get? b = some o →
      ((hp.push (PySem.W.kdv_tup us)).push (PySem.HandSPX.excO C hp.objs.size)).get? b = some o := fun b o e =>
    Heap.get?_push_of_some _ (Heap.get?_push_of_some _ e)
  have hg : ((hp.push (PySem.W.kdv_tup us)).push (PySem.HandSPX.excO C hp.objs.size)).get? (hp.objs.size + 1) =
    some (PySem.HandSPX.excO C hp.objs.size) := by heap_get
  have I2 : Inv X pins σ (upd H (hp.objs.size + 1) (exo (hp.objs.size + 1) C none))
      ⟨(hp.push (PySem.W.kdv_tup us)).push (PySem.HandSPX.excO C hp.objs.size), g, dr, tk, os⟩ :=
    I.laid (t' := tk) (a := hp.objs.size + 1) (o := exo (hp.objs.size + 1) C none)
      (h' := (hp.push (PySem.W.kdv_tup us)).push (PySem.HandSPX.excO C hp.objs.size)) kk up (exo_ok hg)
  have r2 : Vals (V.ref (hp.objs.size + 1) :: vs) (Value.ref (hp.objs.size + 1) :: ws) := .cons rfl r
  refine wpAny_call (PySem.KU.callK F.excBase_ValueError (fun Y => PySem.HandSPX.refsVE_contains Y bm hbm)
    (I.kIn _ _ hC) (PySem.W.looks_findIn I.kIn M.ini) (fun self => PySem.W.bind_fn I.kIn self M.ty) hus
    (codeAny_mono (F1.run _ X.stack _ _ ⟨Value.ref (hp.objs.size + 1) :: us, kw⟩
      (Value.ref (hp.objs.size + 1) :: ws) _ _ E0 (hr.make C us kw) (I2.env0.make C us kw) (hb _ _ I2.kIn) r2 hq)
      fun rr s' z => ?_))
  cases rr with
  | error er => exact z.elim
  | ok fl =>
    cases fl with
    | ret u =>
      obtain ⟨v, H', I3, rv, ev, q3⟩ := I2.after z
      subst ev
      exact ⟨rv, ⟨V.ref (hp.objs.size + 1), H', I3, rfl, q3⟩⟩
    | next => exact False.elim z
    | brk => exact False.elim z
    | cont => exact False.elim z
/-- C(e, ..) -/
theorem pe_mkx {x : Str} {p pos : Pos} {e : Expr} {es : List Expr} {ta : TA} (M : XMk X.K C fI)
    (F1 : FnOk X.prog X.w X.K X.mg X.base CX0 k fI fd ps sp) (hr : Room (k + 1) X.A) (hg : Gl X x)
    (hm : X.mg x = some (.ref C)) (hb : Binds X.K fd ps []) (ha : PA X (e :: es) ta)
    (hdb : (x == ("__debug__" : Str)) = false := by decide)
    (he : starEach (e :: es) X.env = (false, eval e X.env) :: starEach es X.env := by rfl)
    (hpl : (backTo pos (starEach es X.env)).any (·.1) = false := by rfl) :
    PE X (.Call (.Name x p) (e :: es) [] pos) (tMkX C sp id ta) := by
  refine ⟨fun pins s σ H Q I h => ?_⟩
  refine wpAny_Call_Name_kw (ld_glob I hg hm ?_ hdb)
  refine PySem.W.callWith_K (h₀ := X.base) I.ok.mod.kin M.T.kC
    (thn (ha.run pos pins s σ H _ I h) fun us s1 ⟨vs, H1, I1, r, hl, q⟩ => ⟨I1.kIn, ?_⟩) he hpl
  have hn := F1.len _ _ _ _ (q (s1.heap.objs.size) (I1.hok.fresh (Nat.le_refl _)))
  have hz : us.length ≤ sizeLine := by
    rw [← Paired.length r, sizeLine_eq]
    omega
  refine run_mkx (us := us) M F1 hr I1 r (fun s' a kin => ?_) hz q
  have z := hb s' (Value.ref a :: us) kin (by
    rw [List.append_nil, List.length_cons, ← Paired.length r, ← hn]
    rfl)
  rw [List.append_nil] at z
  exact z
/-- C(k = v, ..) -/
theorem pe_mkk {x : Str} {p pos : Pos} {kws : List Keyword} {tk : TA} {ks : List Str} {gv : List V → List V}
    {g : List Value → List Value} (M : XMk X.K C fI)
    (F1 : FnOk X.prog X.w X.K X.mg X.base CX0 k fI fd ps sp) (hr : Room (k + 1) X.A) (hg : Gl X x)
    (hm : X.mg x = some (.ref C))
    (hb : ∀ (s : Shared) (u : Value) (ws : List Value), X.K.In s.heap → ws.length + 1 = ps.length →
      BindsTo s fd ⟨[u], ks.zip ws⟩ (ps.zip (u :: g ws)))
    (hv : ∀ (vs : List V) (us : List Value), Vals vs us → Vals (gv vs) (g us))
    (hlen : ∀ vs : List V, (gv vs).length = vs.length)
    (hkw : PK X kws tk) (hall : (backToKw pos (keywordEach kws X.env)).all (·.1.isSome) = true := by rfl)
    (hks : (backToKw pos (keywordEach kws X.env)).filterMap (·.1) = ks := by rfl)
    (hdb : (x == ("__debug__" : Str)) = false := by decide)
    (hpl : ((backTo pos (starEach [] X.env)).any (·.1) ||
      (backToKw pos (keywordEach kws X.env)).any (·.1.isNone)) = false := by rfl) :
    PE X (.Call (.Name x p) [] kws pos) (tMkX C sp gv tk) := by
  refine ⟨fun pins s σ H Q I h => ?_⟩
  refine wpAny_Call_Name_kw (ld_glob I hg hm ?_ hdb)
  refine PySem.W.callWith_KW0 (h₀ := X.base) I.ok.mod.kin M.T.kC hall
    (thn (hkw.run pos pins s σ H _ I h) fun us s1 ⟨vs, H1, I1, r, hl, q⟩ => ⟨I1.kIn, ?_⟩) hpl
  rw [hks]
  have hn := F1.len _ _ _ _ (q (s1.heap.objs.size) (I1.hok.fresh (Nat.le_refl _)))
  refine run_mkx (us := []) M F1 hr I1 (hv _ _ r) (fun s' a kin => ?_) (Nat.zero_le _) q
  refine hb s' (Value.ref a) us kin ?_
  rw [← Paired.length r, ← hlen vs, ← hn]
  rfl
end
end L2

/-! own rules 3: an exception as a value: its fields, isinstance; repr of data -/
namespace L2
open PySem PySem.Spec PyProof.Rows
/-- what is asked of an own exception class, so that its objects are read and asked as values -/
structure XCl (K : PySem.W.Frag) (C : Addr) : Prop where
  ga : PySem.W.findIn K (.ref C) "__getattribute__" = some (some (.builtin "BaseException.__getattribute__"))
  gg : PySem.W.findIn K (.ref C) "__getattr__" = some none
  ex : PySem.W.subIn K (.ref C) (.type "BaseException") = some true
  hd : PySem.W.hasDictIn K C = true
  ci : (PySem.W.clsIn K C).isSome = true
  ca : PySem.W.findIn K (.ref C) "__class__" = some (some (.builtin "object.__class__"))
  cn : PySem.W.specialIn K (.builtin "object.__class__") "__get__" = some (some (.builtin "getset_descriptor.__get__"))
  ct : PySem.W.takesIn K (.builtin "object.__class__") = some true
  co : PySem.W.mroIn K C (.type "object") = some true
/-- e.f -/
def tXv (K : PySem.W.Frag) (f : Str) (te : TE) : TE := fun σ H Q => te σ H fun x H1 =>
  ∃ (a C dx : Addr) (fs : List (Str × V)) (v : V), x = .ref a ∧ XCl K C ∧ PySem.W.findIn K (.ref C) f = some none ∧
    H1 a = some (exo a C (some dx)) ∧ H1 dx = some (exd dx fs) ∧ fs.lookup f = some v ∧ Q v H1
theorem inst_exo {P : Program} {w : World} {H : Hp} {h : Heap} {a C dx : Addr} {fs : List (Str × V)}
    (hok : HOk P w H h) (ha : H a = some (exo a C (some dx))) (hd : H dx = some (exd dx fs)) :
    ∃ (oe od : Obj) (mA : Str → Option Value), PySem.W.InstAt h a oe C (some od) ∧ h.get? dx = some od ∧
      (∀ n, PySem.W.lookIn n od = some (mA n)) ∧ ∀ f, RelO (fs.lookup f) (mA f) := by
  obtain ⟨t1, he⟩ := exo_at hok ha
  obtain ⟨mA, hn, r⟩ := exd_at hok hd
  obtain ⟨od, ho, hl⟩ := lookIn_ns hn
  exact ⟨_, od, mA, ⟨he, rfl, rfl, ho⟩, ho, hl, r⟩
theorem inst_exo0 {P : Program} {w : World} {H : Hp} {h : Heap} {a C : Addr}
    (hok : HOk P w H h) (ha : H a = some (exo a C none)) : ∃ oe, PySem.W.InstAt h a oe C none := by
  obtain ⟨t1, he⟩ := exo_at hok ha
  exact ⟨_, ⟨he, rfl, rfl, trivial⟩⟩
section
variable {X : Cx}
theorem pe_xv {e : Expr} {te : TE} {pos : Pos} {f : Str} (he : PE X e te)
    (hb : attributeBase e f X.env (eval e X.env) = eval e X.env := by rfl) :
    PE X (.Attribute e f pos) (tXv X.K f te) := by
  refine ⟨fun pins s σ H Q I h => ?_⟩
  refine attr_of hb (thn (he.run pins s σ H _ I h) fun u s1 hh => ?_)
  obtain ⟨x, H1, I1, rx, a, C, dx, fs, v, ex, T, hno, ha, hd, l, q⟩ := hh
  subst ex
  obtain rfl : u = Value.ref a := rx
  obtain ⟨oe, od, mA, J, _, hl, hr⟩ := inst_exo I1.hok ha hd
  obtain ⟨u, hu, ru⟩ := RelO.some_of (v := v) (o := mA f) (by rw [← l]; exact hr f)
  exact HandSPX.exc_get I1.kIn J T.ga T.gg T.ex (PySem.W.findObj_own T.hd hno rfl (by rw [hl, hu]))
    (handed_of ru) ⟨v, H1, I1.tok _, ru, q⟩
/-- isinstance(e, c): e an exception object of an own class -/
def rIsv (K : PySem.W.Frag) : List V → Hp → VK → Prop := fun xs H Q =>
  ∃ (a C : Addr) (d : Option Addr) (c : V) (cv : Value) (b : Bool), xs = [.ref a, c] ∧ XCl K C ∧
    H a = some (exo a C d) ∧ (∀ dx, d = some dx → ∃ fs, H dx = some (exd dx fs)) ∧
    (∀ u, RelV c u → u = cv) ∧ PySem.W.kitOne K (.ref C) cv = some b ∧ Q (.bl b) H
theorem call_isv : CallR X (.builtin "isinstance") (rIsv X.K) := by
  intro pins s σ H xs us Q I r h
  obtain ⟨a, C, d, c, cv, b, rfl, T, ha, hd, hc, e, q⟩ := h
  obtain ⟨u1, u2, rfl, r1, r2⟩ := vals2 r
  obtain rfl : u1 = Value.ref a := r1
  have e2 := hc _ r2
  subst e2
  have fin : ∀ {oe : Obj} {od : Option Obj}, PySem.W.InstAt s.heap a oe C od →
      wpAny (model X.prog X.w) X.A (call (.builtin "isinstance") [.ref a, u2]) (EP X pins σ Q) X.xe s := fun J =>
    PySem.W.kia_one (PySem.W.kitx_exc T.ci T.ga T.gg T.ex T.ca T.cn T.ct T.co) I.kIn J e (fun z => nomatch z)
      fun tk => ⟨.bl b, H, I.tok tk, rfl, q⟩
  cases d with
  | none =>
    obtain ⟨oe, J⟩ := inst_exo0 I.hok ha
    exact fin J
  | some dx =>
    obtain ⟨fs, hx⟩ := hd dx rfl
    obtain ⟨oe, od, _, J, _⟩ := inst_exo I.hok ha hx
    exact fin J
end
end L2

/-! own rules 4: defs that ask for repr: the promise where no repr is under way -/
namespace L2
open PySem PySem.Spec PyProof.Rows
/-- as FnOk, for callers that have no repr under way -/
structure FnG (P : Program) (w : World) (K : PySem.W.Frag) (mg : Str → Option Value) (base : Heap) (CX : CXT)
    (k : Nat) (f : Addr) (fd : FuncData) (ps : List Str) (sp : Sp) : Prop where
  len : ∀ vs H Q E, sp vs H Q E → vs.length = ps.length
  run : ∀ (A : Around) (outer : List Env) (s : Shared) (H : Hp) (args : Args) (us : List Value) (vs : List V)
    (Q : VK) (E : XK), A.guards = some [] → Room k A → Env0 P w K mg base A outer s H →
    BindsTo s fd args (ps.zip us) → Vals vs us → sp vs H Q E →
    codeAny (model P w) A (.call (.ref f) args) (CR CX outer P w H s Q E) s
section
variable {P : Program} {w : World} {K : PySem.W.Frag} {mg : Str → Option Value} {base : Heap} {CX : CXT} {k : Nat}
  {f : Addr} {fd : FuncData} {ps : List Str} {sp : Sp}
theorem FnOk.g (F : FnOk P w K mg base CX k f fd ps sp) : FnG P w K mg base CX k f fd ps sp :=
  ⟨F.len, fun A outer s H args us vs Q E _ hr he hb hv hs => F.run A outer s H args us vs Q E hr he hb hv hs⟩
theorem FnG.mono {j : Nat} (F : FnG P w K mg base CX j f fd ps sp) (h : j ≤ k) : FnG P w K mg base CX k f fd ps sp :=
  ⟨F.len, fun A outer s H args us vs Q E hg hr => F.run A outer s H args us vs Q E hg (hr.mono h)⟩
/-- the rule for a def, guards known -/
theorem Fun.okG {x qual : Str} {st : Stmt} {N : List Str} (F : Fun K x qual st f fd) (S : FnScope N ps (defScope st))
    (len : ∀ vs H Q E, sp vs H Q E → vs.length = ps.length)
    (hbody : ∀ (cdv : Value) (A : Around) (outer : List Env) (s : Shared) (H : Hp) (vs : List V) (Q : VK) (E : XK),
      (A.deeper (envOfC qual (defScope st) s.heap.objs.size f cdv)).guards = some [] →
      Room k (A.deeper (envOfC qual (defScope st) s.heap.objs.size f cdv)) → sp vs H Q E →
      ∃ t, PSs (cxOf CX0 P w K mg base N qual (defScope st) f cdv A outer s H E).nox (defBody st) t ∧
        t { nx := fun _ H' => Q .non H', rt := Q } (start N vs) H) :
    FnG P w K mg base CX0 (k + 1) f fd ps sp := by
  obtain ⟨oc, od, kV, doc, pm, an, cdv, ct, osl, rfl, lk, hcd⟩ := F.ex
  refine ⟨len, fun A outer s H args us vs Q E hg hr e0 hb r hsp => ?_⟩
  have hl := len _ _ _ _ hsp
  have KX : K.In s.heap := e0.mod.kin.keeps fun b o e => (e0.bs b o e).1
  have lim : s.heap.NoLimit := e0.mod.nolimit.keeps fun b o e => (e0.bs b o e).1
  have kinds : ∀ y ∈ ps.zip us, (defScope st).names.lookup y.1 = some .local ∨
      ((defScope st).names.lookup y.1 = some .cell ∧
        ((cellsFrom (s.heap.objs.size + 1) (defScope st).names []).lookup y.1).isSome = true) := by
    rintro ⟨n, v⟩ hy
    rcases S.par n (List.of_mem_zip hy).1 with q | q
    · exact .inl q
    · exact .inr ⟨q, PySem.W.cellsFrom_some _ _ _ (.inl q)⟩
  refine codeAny_call_function hr.depth (KX _ _ lk) rfl S.co S.gen rfl (PySem.W.codeRec_of KX hcd) (hb _ _ _ _ ?_)
  refine wpAny_newFunctionEnv_cells S.kind kinds fun env he s1 x => ?_
  subst he
  refine ⟨lim.keeps x.toInCall.keep, codeAny_func ?_⟩
  have hg' : (A.deeper (envOfC qual (defScope st) s.heap.objs.size f cdv)).guards = some [] := by
    first
      | exact hg
      | simpa [Around.deeper] using hg
  obtain ⟨t, ht0, hq⟩ := hbody cdv A outer s H vs Q E hg' (hr.deeper _) hsp
  have ht := ht0.nox
  have I : Inv (cxOf CX0 P w K mg base N qual (defScope st) f cdv A outer s H E) [] (start N vs) H s1 :=
    inv_start S hr.hd e0 hl r x
  refine wpAny_mono (ht.run [] s1 (start N vs) H _ I hq) (fun fl s' hs => ?_) fun e s' hs => hs
  have fin : ∀ {σ' : St} {H' : Hp} {v : V} {u : Value},
      Inv (cxOf CX0 P w K mg base N qual (defScope st) f cdv A outer s H E) [] σ' H' s' → RelV v u → Q v H' →
      CE outer P w H s Q u s' := fun J rv q => ⟨_, _, J.os, J.bare, J.base, J.hok, rv, q⟩
  cases fl with
  | ret u =>
    obtain ⟨v, σ', H', J, rv, q⟩ := hs
    exact fin J rv q
  | next =>
    obtain ⟨σ', H', J, q⟩ := hs
    exact fin (v := V.non) (u := Value.none) J rfl q
  | brk =>
    obtain ⟨_, _, _, q⟩ := hs
    exact False.elim q
  | cont =>
    obtain ⟨_, _, _, q⟩ := hs
    exact False.elim q
end
section
variable {X : Cx} {CX : CXT} {k : Nat} {f : Addr} {fd : FuncData} {ps : List Str} {sp : Sp} {dvs : List V}
  {ds : List Value} {E : XK} {x : Str} {p pos : Pos} {e : Expr} {es : List Expr} {t : TA}
theorem run_fnG {pins : List (Addr × Obj)} {σ : St} {H : Hp} {s : Shared} {Q : VK} {us : List Value} {vs : List V}
    (F : FnG X.prog X.w X.K X.mg X.base CX k f fd ps sp) (hA : X.A.guards = some []) (hr : Room k X.A)
    (hb : Binds X.K fd ps ds) (hd : Vals dvs ds) (hx : Passes CX X E) (I : Inv X pins σ H s) (r : Vals vs us)
    (h : sp (vs ++ dvs) H Q E) : wpAny (model X.prog X.w) X.A (call (.ref f) us) (EP X pins σ Q) X.xe s := by
  have r2 : Vals (vs ++ dvs) (us ++ ds) := r.append hd
  have hl : (us ++ ds).length = ps.length := by
    rw [← r2.length]
    exact F.len _ _ _ _ h
  refine wpAny_call (codeAny_mono (F.run X.A X.stack s H ⟨us, []⟩ (us ++ ds) (vs ++ dvs) Q E hA hr I.env0
    (hb s us I.kIn hl) r2 h) fun rr s' z => ?_)
  cases rr with
  | error e => exact hx pins σ H s e s' I z
  | ok fl =>
    cases fl with
    | ret u => exact I.after z
    | next => exact False.elim z
    | brk => exact False.elim z
    | cont => exact False.elim z
theorem pe_callG (F : FnG X.prog X.w X.K X.mg X.base CX k f fd ps sp) (hA : X.A.guards = some []) (hr : Room k X.A)
    (hg : Gl X x) (hm : X.mg x = some (.ref f)) (hk : PySem.W.keepIn X.K (.ref f) = true) (hb : Binds X.K fd ps ds)
    (hd : Vals dvs ds) (hx : Passes CX X E) (ha : PA X (e :: es) t)
    (hdb : (x == ("__debug__" : Str)) = false := by decide)
    (he : starEach (e :: es) X.env = (false, eval e X.env) :: starEach es X.env := by rfl)
    (hpl : (backTo pos (starEach es X.env)).any (·.1) = false := by rfl) :
    PE X (.Call (.Name x p) (e :: es) [] pos) (tCall sp dvs E t) := by
  refine ⟨fun pins s σ H Q I h => ?_⟩
  refine wpAny_Call_Name_kw (ld_glob I hg hm ?_ hdb)
  refine PySem.W.callWith_K (h₀ := X.base) I.ok.mod.kin hk
    (thn (ha.run pos pins s σ H _ I h) fun us s1 ⟨vs, H1, I1, r, q⟩ => ⟨I1.kIn, ?_⟩) he hpl
  exact run_fnG F hA hr hb hd hx I1 r q
/-- repr(x): x data -/
def rShow (K : PySem.W.Frag) : List V → Hp → VK → Prop := fun xs H Q =>
  ∃ (a : Addr) (d : PyData), xs = [.ref a] ∧ Dp K H (.ref a) d ∧ d.showable = true ∧ d.hasDict = false ∧
    d.depth ≤ 60 ∧ d.shown.length ≤ sizeLine ∧ Q (.str d.shown) H
theorem call_rep (hA : X.A.guards = some []) (hu : X.A.units + 64 < cLine) :
    CallR X (.builtin "repr") (rShow X.K) := by
  intro pins s σ H xs us Q I r h
  obtain ⟨a, d, rfl, hd, hs, hn, hdp, hz, q⟩ := h
  obtain ⟨u, rfl, ru⟩ := vals1 r
  obtain rfl : u = Value.ref a := ru
  obtain ⟨as, rd⟩ := Dp.reads I d _ _ hd rfl
  exact repr_of_reads' rd hs (fun z => by rw [hn] at z; cases z) hA (by omega) (fun _ _ e => e)
    (fun h' u tk keep => ⟨.str d.shown, H, I.kept keep, ⟨u, rfl⟩, q⟩) hz
end
/-- the law's call, from such a promise -/
theorem law_callG {P : Program} {w : World} {K : PySem.W.Frag} {mg mb : Str → Option Value} {k : Nat} {fa a : Addr}
    {fd : FuncData} {x : Str} {sp : Sp} {s1 : Shared} {vs : List Value} {ns : List Int}
    (KX : K.In s1.heap) (hns : s1.heap.Ns mainGlobals mg) (hb : s1.heap.Ns builtinsNs mb)
    (hbb : ∀ y : Str, y ≠ "__name__" → mb y = bootBuiltins y) (hlim : s1.heap.NoLimit) (hg : s1.gens = #[])
    (ha : s1.heap.get? a = some { cls := .type "list", data := .seq vs.toArray }) (hi : IntsAre vs ns)
    (hl : ns.length ≤ sizeLine) (hr : Room k callerA)
    (F : ∀ base : Heap, K.In base → base.Ns mainGlobals mg → FnG P w K mg base CX0 k fa fd [x] sp)
    (hbind : ∀ (s : Shared) (u : Value), BindsTo s fd ⟨[u], []⟩ [(x, u)])
    (hsp : ∀ H : Hp, Only H → SqL K H a (ns.map V.int) → sp [.ref a] H (fun v _ => v = .bl true) E0) :
    codeAny (model P w) callerA (.call (.ref fa) ⟨[.ref a], []⟩)
      (fun r s' => r = .ok (.ret (.bool true)) ∧ OldK s1.heap s'.heap ∧ s'.os = s1.os ∧ AllBare s'.gens) s1 := by
  have rv := vals_ints hi
  have lenV := hi.length
  have core : ∀ H : Hp, Only H → SqL K H a (ns.map V.int) → HOk P w H s1.heap → (∀ b, H b ≠ none → b = a) →
      (H a ≠ none → K.lookup a = none) → codeAny (model P w) callerA (.call (.ref fa) ⟨[.ref a], []⟩)
        (fun r s' => r = .ok (.ret (.bool true)) ∧ OldK s1.heap s'.heap ∧ s'.os = s1.os ∧ AllBare s'.gens) s1 := by
    intro H hO hS hok hA hK
    have atA : ∀ {b : Addr} {u : HO}, H b = some u → b = a := fun {b u} q => hA b (by rw [q]; simp)
    have noA : ∀ {b : Addr} {o : Obj} {es : Array DictEntry} {ep : Nat}, s1.heap.get? b = some o →
        o.data = .dict es ep → H b = none := by
      intro b o es ep e d
      cases q : H b with
      | none => rfl
      | some u =>
        obtain rfl := atA q
        rw [ha] at e
        cases e
        have d' : Data.seq vs.toArray _ = Data.dict es ep := d
        cases d'
    have nsK : ∀ {b : Addr} {m : Str → Option Value}, s1.heap.Ns b m → (hidT s1.heap H).Ns b m := by
      rintro b m ⟨o, es, ep, e, d, r⟩
      exact ⟨o, es, ep, hidT_get e (noA e d), d, r⟩
    have hKb : K.In (hidT s1.heap H) := by
      intro b o e
      refine hidT_get (KX b o e) ?_
      cases q : H b with
      | none => rfl
      | some u =>
        obtain rfl := atA q
        rw [hK (by rw [q]; simp)] at e
        cases e
    have lim' : (hidT s1.heap H).NoLimit := by
      obtain ⟨mc, h1, h2⟩ := hlim
      exact ⟨mc, nsK h1, h2⟩
    have hM : Mod K mg (hidT s1.heap H) := ⟨hKb, nsK hns, ⟨mb, nsK hb, hbb⟩, lim'⟩
    have e0 : Env0 P w K mg (hidT s1.heap H) callerA [] s1 H :=
      ⟨rfl, hM, fun b o e => of_hidT e, Nat.le_of_eq (hidT_size _ _), trivial,
        fun b hb => absurd (show b ∈ ([] : List Addr) from hb) (by simp), hok, .of_eq hg⟩
    refine codeAny_mono ((F _ hKb (nsK hns)).run callerA [] s1 H ⟨[.ref a], []⟩ [.ref a] [.ref a] _ _ rfl hr e0
      (hbind s1 (.ref a)) (.cons rfl .nil) (hsp H hO hS)) fun r s' h => ?_
    cases r with
    | error e => exact h.elim
    | ok fl =>
      cases fl with
      | next => exact False.elim h
      | brk => exact False.elim h
      | cont => exact False.elim h
      | ret u =>
        obtain ⟨v, H', os, bare, un, hok', r', q⟩ := h
        have q' : v = .bl true := q
        subst q'
        obtain rfl : u = Value.bool true := r'
        refine ⟨rfl, OldK.of_keep fun b o e => ?_, os, bare⟩
        have nil : b ∉ frs [] := fun z => absurd (show b ∈ ([] : List Addr) from z) (by simp)
        cases q : H b with
        | none => exact un.keep b o e q nil (by simp)
        | some u =>
          rcases hO b with z | ⟨ob, xs, z⟩
          · rw [q] at z
            cases z
          · have z2 := un.frzs b ob _ z
            obtain ⟨e1, _⟩ := hok b _ z
            obtain ⟨e2, _⟩ := hok' b _ z2
            rw [e] at e1
            cases e1
            exact e2
  cases hk : K.lookup a with
  | some o =>
    have e := KX a o hk
    rw [ha] at e
    cases e
    have ok0 : HOk P w (fun _ => none) s1.heap := fun b u z => by
      have z' : (none : Option HO) = some u := z
      cases z'
    refine core (fun _ => none) (fun _ => .inl rfl) (.inr ⟨_, vs.toArray, _, hk, rfl, rfl, rfl, ?_, ?_⟩) ok0
      (fun b z => absurd rfl z) fun z => absurd rfl z
    · rw [List.size_toArray, lenV]
      exact hl
    · simpa using rv
  | none =>
    let o1 : Obj := { cls := .type "list", data := .seq vs.toArray }
    refine core (fun b => if b = a then some (.frz o1 (.lst (ns.map V.int))) else none) (fun b => ?_)
      (.inl (.inr ⟨o1, if_pos rfl⟩)) (fun b u z => ?_) (fun b z => ?_) fun _ => hk
    · by_cases hb : b = a
      · exact .inr ⟨_, _, if_pos hb⟩
      · exact .inl (if_neg hb)
    · by_cases hb : b = a
      · have z' := (if_pos hb).symm.trans z
        cases z'
        subst hb
        exact ⟨ha, by rw [List.length_map]; exact hl, vs, _, rv, ha⟩
      · have z' := (if_neg hb).symm.trans z
        cases z'
    · by_cases hb : b = a
      · exact hb
      · exact absurd (if_neg hb) z
theorem walk_ofG {l : PySem.W.OpenLaw} {n k : Nat} {q : Program} {loose : List Str}
    {XP : (Str → Option Value) → Heap → Prop} {YP : World → Heap → Prop} {d : DefRec} {K : Params → PySem.W.Frag}
    {sp : PySem.W.Frag → Sp} {x : Str} (hn : l.most = some n) (hn2 : n ≤ sizeLine) (hdf : d.params.defaults = [])
    (hr : Room k callerA) (hY : ∀ (w : World) (h : Heap), YP w h → (K w.params).In h)
    (F : ∀ (w : World) (mg : Str → Option Value) (fa : Addr) (h : Heap), (K w.params).In h → h.Ns mainGlobals mg →
      mg d.name = some (.ref fa) → ∃ fd : FuncData, (∀ (s : Shared) (u : Value), BindsTo s fd ⟨[u], []⟩ [(x, u)]) ∧
        ∀ base : Heap, (K w.params).In base → base.Ns mainGlobals mg →
          FnG l.prog w (K w.params) mg base CX0 k fa fd [x] (sp (K w.params)))
    (hsp : ∀ (K : PySem.W.Frag) (H : Hp) (a : Addr) (ns : List Int), ns.length ≤ n → Only H →
      SqL K H a (ns.map V.int) → sp K [.ref a] H (fun v _ => v = .bl true) E0) :
    PySem.W.WalkO q loose XP YP l.row.toRowW d [] (fun f vs => PySem.call f vs) := by
  refine Att.attach_call hn hdf fun w s0 s1 mg mb fa o pm cd doc a vs ns G Y ho hd hcd hmg hobj hints hlen hg => ?_
  have KX := hY w _ Y
  obtain ⟨fd, hb, hF⟩ := F w mg fa _ KX G.T.g hmg
  exact law_callG KX G.T.g G.T.b G.T.builtins G.T.nolimit hg hobj hints (Nat.le_trans hlen hn2) hr hF hb
    fun H hO hS => hsp (K w.params) H a ns hlen hO hS
end L2

/-! own rules 5: defs by name -/
namespace L2
open PySem PySem.Spec PyProof.Rows
/-- the address of what a module's name holds -/
def adr (mg : Str → Option Value) (x : Str) : Addr := match mg x with
  | some (.ref a) => a
  | _ => 0
theorem adr_of {mg : Str → Option Value} {x : Str} {a : Addr} (h : mg x = some (.ref a)) : adr mg x = a := by
  unfold adr
  rw [h]
/-- a def of the top, by its name -/
def OwnD (K : PySem.W.Frag) (mg : Str → Option Value) (x : Str) (st : Stmt) (ps : List Str) : Prop :=
  ∃ f fd, mg x = some (.ref f) ∧ Fun K x x st f fd ∧ Binds K fd ps []
/-- what a def of the top keeps -/
def Kp (P : Program) (w : World) (K : PySem.W.Frag) (mg : Str → Option Value) (base : Heap) (k : Nat) (x : Str)
    (ps : List Str) (sp : Sp) : Prop :=
  ∃ f fd, mg x = some (.ref f) ∧ PySem.W.keepIn K (.ref f) = true ∧ Binds K fd ps [] ∧
    FnG P w K mg base CX0 k f fd ps sp
section
variable {P : Program} {w : World} {K : PySem.W.Frag} {mg : Str → Option Value} {base : Heap}
theorem OwnD.ok {x : Str} {st : Stmt} {N ps : List Str} {k : Nat} {sp : Sp} (O : OwnD K mg x st ps)
    (S : FnScope N ps (defScope st)) (len : ∀ vs H Q E, sp vs H Q E → vs.length = ps.length)
    (hbody : ∀ (f : Addr) (cdv : Value) (A : Around) (outer : List Env) (s : Shared) (H : Hp) (vs : List V) (Q : VK)
      (E : XK), (A.deeper (envOfC x (defScope st) s.heap.objs.size f cdv)).guards = some [] →
      Room k (A.deeper (envOfC x (defScope st) s.heap.objs.size f cdv)) → sp vs H Q E →
      ∃ t, PSs (cxOf CX0 P w K mg base N x (defScope st) f cdv A outer s H E).nox (defBody st) t ∧
        t { nx := fun _ H' => Q .non H', rt := Q } (start N vs) H) :
    Kp P w K mg base (k + 1) x ps sp := by
  obtain ⟨f, fd, hm, F, b⟩ := O
  exact ⟨f, fd, hm, F.kp, b, F.okG S len fun cdv A outer s H vs Q E hg hr h => hbody f cdv A outer s H vs Q E hg hr h⟩
theorem own_mk {h : Heap} {x : Str} {st : Stmt} {ps : List Str} {f : Addr} {od an : Option Addr}
    {sl : Array (Option Value)} {oc kV dc pm cd ct : Value} (X : K.In h) (G : h.Ns mainGlobals mg)
    (a : PySem.W.nsIn K mainGlobals x = some (some (.ref f)))
    (l : K.lookup f = some ⟨oc, od, .func (PySem.W.fnOf x x (defArgs st) (defBody st) (defScope st) .none kV dc pm an cd ct), sl⟩)
    (c : PySem.W.codeIn K cd x = true) (k : PySem.W.keepIn K (.ref f) = true)
    (b : ∀ (kV doc pm : Value) (an : Option Addr) (cdv ct : Value) (us : List Value), us.length = ps.length →
      bindArgs (PySem.W.fnOf x x (defArgs st) (defBody st) (defScope st) .none kV doc pm an cdv ct) ⟨us, []⟩ =
        pure (ps.zip us)) : OwnD K mg x st ps :=
  have F := fun_mk (st := st) l c k
  ⟨f, _, PySem.W.mg_of X G a, F, F.binds b⟩
end
section
variable {X : Cx} {k j : Nat} {ps : List Str} {sp : Sp} {x : Str} {p pos : Pos} {e : Expr} {es : List Expr} {t : TA}
/-- f(e, ..) by what f keeps -/
theorem pe_kp (F : Kp X.prog X.w X.K X.mg X.base k x ps sp) (hA : X.A.guards = some []) (hr : Room j X.A)
    (hg : Gl X x) (ha : PA X (e :: es) t) (hj : k ≤ j := by decide)
    (hdb : (x == ("__debug__" : Str)) = false := by decide)
    (he : starEach (e :: es) X.env = (false, eval e X.env) :: starEach es X.env := by rfl)
    (hpl : (backTo pos (starEach es X.env)).any (·.1) = false := by rfl)
    (hx : Passes CX0 X E0 := by exact pass0) :
    PE X (.Call (.Name x p) (e :: es) [] pos) (tCall sp [] E0 t) := by
  obtain ⟨f, fd, hm, hk, hb, G⟩ := F
  exact pe_callG G hA (hr.mono hj) hg hm hk hb .nil hx ha hdb he hpl
end
end L2

/-! own rules 6: weaker readings, heaps -/
namespace L2
open PySem PySem.Spec PyProof.Rows
section
variable {X : Cx}
theorem fmod_bd {i j : Int} (h : 0 < j) : 0 ≤ i.fmod j ∧ i.fmod j < j := by
  rw [Int.fmod_eq_emod_of_nonneg _ (by omega)]
  exact ⟨Int.emod_nonneg _ (by omega), Int.emod_lt_of_pos _ h⟩
/-- a % b, some number below b -/
def rModW : R2 := fun x y H Q => ∃ i j, x = .int i ∧ y = .int j ∧ 0 < j ∧ ∀ r, 0 ≤ r → r < j → Q (.int r) H
theorem op_modW : OpR X (binaryOp .Mod) rModW := by
  intro pins s σ H x y v u Q I rx ry h
  obtain ⟨i, j, ex, ey, hj, h⟩ := h
  exact op_modN pins s σ H x y v u Q I rx ry ⟨i, j, ex, ey, by omega, h _ (fmod_bd hj).1 (fmod_bd hj).2⟩
/-- a // b, the quotient with its rest -/
def rDivW : R2 := fun x y H Q => ∃ i j, x = .int i ∧ y = .int j ∧ 0 < j ∧ j < 1073741824 ∧
  ∀ q r, i = j * q + r → 0 ≤ r → r < j → Q (.int q) H
theorem op_divW : OpR X (binaryOp .FloorDiv) rDivW := by
  intro pins s σ H x y v u Q I rx ry h
  obtain ⟨i, j, ex, ey, hj, h2, h⟩ := h
  have b := fmod_bd (i := i) hj
  refine op_fdivN pins s σ H x y v u Q I rx ry ⟨i, j, ex, ey, ⟨by omega, by omega⟩, h _ _ ?_ b.1 b.2⟩
  have e := Int.fmod_add_mul_fdiv i j
  omega
/-- a ** b, some number -/
def rPowW : R2 := fun x y H Q => ∃ i j, x = .int i ∧ y = .int j ∧ 0 ≤ j ∧ j ≤ 1000000 ∧ i.natAbs < 2 ^ 64 ∧
  ∀ z, Q (.int z) H
theorem op_powW : OpR X (binaryOp .Pow) rPowW := by
  intro pins s σ H x y v u Q I rx ry h
  obtain ⟨i, j, ex, ey, h1, h2, h3, h⟩ := h
  exact op_pow pins s σ H x y v u Q I rx ry ⟨i, j, ex, ey, ⟨h1, h2, h3⟩, h _⟩
/-- a * b, as a letter with its equation -/
def rMulW : R2 := fun x y H Q => ∃ i j, x = .int i ∧ y = .int j ∧ ((-(2 ^ 64) < i ∧ i < 2 ^ 64) ∨ (-(2 ^ 64) < j ∧ j < 2 ^ 64)) ∧
  ∀ z, z = i * j → Q (.int z) H
theorem op_mulW' : OpR X (binaryOp .Mult) rMulW := by
  intro pins s σ H x y v u Q I rx ry h
  obtain ⟨i, j, ex, ey, h1, h⟩ := h
  exact op_mul pins s σ H x y v u Q I rx ry ⟨i, j, ex, ey, h1, h _ rfl⟩
/-- int(n), n an int -/
theorem call_intI : CallR X (.type "int") (fun xs H Q => ∃ i, xs = [.int i] ∧ Q (.int i) H) := by
  intro pins s σ H xs us Q I r h
  obtain ⟨i, e, h⟩ := h
  exact call_int1 pins s σ H xs us Q I r (.inl ⟨i, e, h⟩)
/-- int(b), b a bool: 0 or 1 -/
theorem call_intB : CallR X (.type "int") (fun xs H Q => ∃ b, xs = [.bl b] ∧ ∀ i, 0 ≤ i → i ≤ 1 → Q (.int i) H) := by
  intro pins s σ H xs us Q I r h
  obtain ⟨b, e, h⟩ := h
  refine call_int1 pins s σ H xs us Q I r (.inr ⟨b, e, h _ ?_ ?_⟩)
  · cases b <;> decide
  · cases b <;> decide
end
theorem upd_new {H : Hp} {p q : Addr} {o u : HO} (hn : H p = none) (h : H q = some o) : upd H p u q = some o :=
  (upd_ne (ne_of_none h hn)).trans h
theorem upd_oth {H : Hp} {p q : Addr} {o u : HO} (hn : q ≠ p) (h : H q = some o) : upd H p u q = some o :=
  (upd_ne hn).trans h
theorem sq_new {K : PySem.W.Frag} {H : Hp} {p c : Addr} {u : HO} {xs : List V} (hn : H p = none) (h : SqL K H c xs) :
    SqL K (upd H p u) c xs := by
  rcases h with (h | ⟨o, h⟩) | h
  · exact .inl (.inl (upd_new hn h))
  · exact .inl (.inr ⟨o, upd_new hn h⟩)
  · exact .inr h
theorem sq_oth {K : PySem.W.Frag} {H : Hp} {p c : Addr} {u : HO} {xs : List V} (hn : c ≠ p) (h : SqL K H c xs) :
    SqL K (upd H p u) c xs := by
  rcases h with (h | ⟨o, h⟩) | h
  · exact .inl (.inl (upd_oth hn h))
  · exact .inl (.inr ⟨o, upd_oth hn h⟩)
  · exact .inr h
theorem Same.new {H : Hp} {p : Addr} {u : HO} (hn : H p = none) : Same H (upd H p u) := fun b o e => upd_new hn e
theorem at_map {ns : List Int} {r : Int} (h0 : 0 ≤ r) (h1 : r < (ns.length : Int)) :
    ∃ x, atI (ns.map V.int) r = some (.int x) := by
  have hl : r.toNat < ns.length := by omega
  refine ⟨ns[r.toNat], ?_⟩
  unfold atI ixN
  rw [List.length_map, if_pos h0, if_pos h1]
  simp [List.getElem?_eq_getElem hl]
theorem at_in {α : Type} {xs : List α} {r : Int} (h0 : 0 ≤ r) (h1 : r < (xs.length : Int)) :
    ∃ x, atI xs r = some x ∧ x ∈ xs := by
  have hl : r.toNat < xs.length := by omega
  refine ⟨xs[r.toNat], ?_, List.getElem_mem _⟩
  unfold atI ixN
  rw [if_pos h0, if_pos h1]
  simp [List.getElem?_eq_getElem hl]
/-- data of a list of ints -/
theorem dp_ints {K : PySem.W.Frag} {H : Hp} : ∀ ns : List Int, DpAll K H (ns.map V.int) (ns.map PyData.int)
  | [] => .nil
  | n :: ns => .cons (.int n) (dp_ints ns)
/-- a statement and what follows it, met at a word -/
def tMid (t u : TS) : TS := fun D σ H => ∃ W : St → Hp → Prop, t { D with nx := W } σ H ∧ ∀ σ1 H1, W σ1 H1 → u D σ1 H1
theorem pss_mid {X : Cx} {st : Stmt} {rest : List Stmt} {t u : TS} (a : PS X st t) (b : PSs X rest u) :
    PSs X (st :: rest) (tMid t u) := by
  constructor
  intro pins s σ H D I h
  obtain ⟨W, hw, hu⟩ := h
  refine wpAny_execs_cons (thn (a.run pins s σ H { D with nx := W } I hw) fun f s1 z => ?_)
  cases f with
  | next =>
    obtain ⟨σ1, H1, I1, z⟩ := z
    exact b.run pins s1 σ1 H1 D I1 (hu σ1 H1 z)
  | ret v => exact z
  | brk => exact z
  | cont => exact z
theorem len_lst {K : PySem.W.Frag} {H : Hp} {c : Addr} {xs : List V} (h : H c = some (.lst xs)) :
    LenV K (.ref c) H xs.length := .inl ⟨xs, SqL.of h, rfl⟩
theorem len_tup {K : PySem.W.Frag} {H : Hp} {c : Addr} {xs : List V} (h : H c = some (.tup xs)) :
    LenV K (.ref c) H xs.length := .inr ⟨xs, SqT.of h, rfl⟩
theorem len_sq {K : PySem.W.Frag} {H : Hp} {c : Addr} {xs : List V} (h : SqL K H c xs) :
    LenV K (.ref c) H xs.length := .inl ⟨xs, h, rfl⟩
end L2

/-! own rules 7: the errors of a package as values -/
namespace L2
open PySem PySem.Spec PyProof.Rows
theorem PE.imp {X : Cx} {e : Expr} {t t' : TE} (h : PE X e t) (k : ∀ σ H Q, t' σ H Q → t σ H Q) : PE X e t' :=
  ⟨fun pins s σ H Q I q => h.run pins s σ H Q I (k σ H Q q)⟩
/-- all but what stands at p is as it was -/
def But (p : Addr) (H H' : Hp) : Prop := ∀ b, b ≠ p → ∀ o, H b = some o → H' b = some o
theorem But.refl {p : Addr} {H : Hp} : But p H H := fun _ _ _ e => e
theorem But.trans {p : Addr} {H H1 H2 : Hp} (a : But p H H1) (b : But p H1 H2) : But p H H2 :=
  fun c hc o e => b c hc o (a c hc o e)
theorem Same.but {p : Addr} {H H' : Hp} (h : Same H H') : But p H H' := fun b _ o e => h b o e
/-- an error object, its fields the last one first -/
def XV (H : Hp) (a C : Addr) (fs : List (Str × V)) : Prop :=
  (fs = [] ∧ H a = some (exo a C none)) ∨ ∃ dx, H a = some (exo a C (some dx)) ∧ H dx = some (exd dx fs)
theorem XV.same {H H' : Hp} {a C : Addr} {fs : List (Str × V)} (h : XV H a C fs) (s : Same H H') : XV H' a C fs := by
  rcases h with ⟨e, h⟩ | ⟨dx, h, g⟩
  · exact .inl ⟨e, s _ _ h⟩
  · exact .inr ⟨dx, s _ _ h, s _ _ g⟩
/-- what __init__ keeps -/
def spIni (K : PySem.W.Frag) (C : Addr) (fs : List Str) : Sp := fun vs H Q _ => ∃ (a : Addr) (xs : List V),
  vs = .ref a :: xs ∧ xs.length = fs.length ∧ H a = some (exo a C none) ∧
  ∀ (H' : Hp), But a H H' → XV H' a C (fs.zip xs).reverse → Q .non H'
/-- an error class of the top, by its name -/
structure ErrK (K : PySem.W.Frag) (mg : Str → Option Value) (x : Str) (fs : List Str) : Prop where
  mgx : mg x = some (.ref (adr mg x))
  T : OexC K (adr mg x)
  X : XCl K (adr mg x)
  na : ∀ f ∈ fs, PySem.W.findIn K (.ref (adr mg x)) f = some none
/-- its __init__ -/
def IniK (K : PySem.W.Frag) (mg : Str → Option Value) (x q : Str) (st : Stmt) : Prop :=
  ∃ fI fd, XMk K (adr mg x) fI ∧ Fun K "__init__" q st fI fd
/-- how keywords bind, the last one first -/
def KwR (fd : FuncData) (fs : List Str) : Prop := ∀ (s : Shared) (u : Value) (ws : List Value), ws.length = fs.length →
  BindsTo s fd ⟨[u], fs.reverse.zip ws⟩ ((("self" : Str) :: fs).zip (u :: ws.reverse))
/-- what making one keeps -/
def MkE (P : Program) (w : World) (K : PySem.W.Frag) (mg : Str → Option Value) (base : Heap) (x : Str) (fs : List Str) :
    Prop := mg x = some (.ref (adr mg x)) ∧ ∃ fI fd, XMk K (adr mg x) fI ∧ Binds K fd ("self" :: fs) [] ∧ KwR fd fs ∧
  FnOk P w K mg base CX0 1 fI fd ("self" :: fs) (spIni K (adr mg x) fs)
section
variable {P : Program} {w : World} {K : PySem.W.Frag} {mg : Str → Option Value} {base : Heap}
theorem ini1 {x q f : Str} {st : Stmt} {fI : Addr} {fd : FuncData} (E : ErrK K mg x [f])
    (F : Fun K "__init__" q st fI fd) (S : FnScope ["self", f] ["self", f] (defScope st))
    (hb : ∀ (cdv : Value) (A : Around) (outer : List Env) (s : Shared) (H : Hp) (E : XK),
      PSs (cxOf CX0 P w K mg base ["self", f] q (defScope st) fI cdv A outer s H E).nox (defBody st)
        (tOst K f (tVar 0) (tVar 1))) :
    FnOk P w K mg base CX0 1 fI fd ["self", f] (spIni K (adr mg x) [f]) := by
  refine F.ok S (fun vs H Q E h => ?_) (fun cdv A outer s H vs Q E' hr h => ?_)
  · obtain ⟨a, xs, rfl, l, _⟩ := h
    simp only [List.length_cons] at l ⊢
    omega
  · obtain ⟨a, xs, rfl, l, ha, k⟩ := h
    obtain ⟨v, rfl⟩ : ∃ v, xs = [v] := by
      match xs, l with
      | [v], _ => exact ⟨v, rfl⟩
    refine ⟨_, hb cdv A outer s H E', ?_⟩
    refine ⟨_, rfl, _, rfl, a, _, rfl, E.T, E.na f (by simp), .inl ⟨ha, fun dx nd ne => ?_⟩⟩
    refine k _ (fun b hb o e => upd_oth hb (upd_new nd e)) (.inr ⟨dx, upd_same, ?_⟩)
    exact (upd_ne ne).trans upd_same
theorem ini2 {x q f g : Str} {st : Stmt} {fI : Addr} {fd : FuncData} (E : ErrK K mg x [f, g])
    (F : Fun K "__init__" q st fI fd) (S : FnScope ["self", f, g] ["self", f, g] (defScope st))
    (hb : ∀ (cdv : Value) (A : Around) (outer : List Env) (s : Shared) (H : Hp) (E : XK),
      PSs (cxOf CX0 P w K mg base ["self", f, g] q (defScope st) fI cdv A outer s H E).nox (defBody st)
        (tSeq (tOst K f (tVar 0) (tVar 1)) (tOst K g (tVar 0) (tVar 2)))) :
    FnOk P w K mg base CX0 1 fI fd ["self", f, g] (spIni K (adr mg x) [f, g]) := by
  refine F.ok S (fun vs H Q E h => ?_) (fun cdv A outer s H vs Q E' hr h => ?_)
  · obtain ⟨a, xs, rfl, l, _⟩ := h
    simp only [List.length_cons] at l ⊢
    omega
  · obtain ⟨a, xs, rfl, l, ha, k⟩ := h
    obtain ⟨v, u, rfl⟩ : ∃ v u, xs = [v, u] := by
      match xs, l with
      | [v, u], _ => exact ⟨v, u, rfl⟩
    refine ⟨_, hb cdv A outer s H E', ?_⟩
    refine ⟨_, rfl, _, rfl, a, _, rfl, E.T, E.na f (by simp), .inl ⟨ha, fun dx nd ne => ?_⟩⟩
    have ha2 : (upd (upd H dx (exd dx [(f, v)])) a (exo a (adr mg x) (some dx))) a = some (exo a (adr mg x) (some dx)) :=
      upd_same
    have hd2 : (upd (upd H dx (exd dx [(f, v)])) a (exo a (adr mg x) (some dx))) dx = some (exd dx [(f, v)]) :=
      (upd_ne ne).trans upd_same
    refine ⟨_, rfl, _, rfl, a, _, rfl, E.T, E.na g (by simp), .inr ⟨dx, _, ha2, hd2, (by show 1 ≤ 900; decide), ?_⟩⟩
    refine k _ (fun b hb o e => ?_) (.inr ⟨dx, (upd_ne ne.symm).trans ha2, upd_same⟩)
    exact upd_oth (ne_of_none e nd) (upd_oth hb (upd_new nd e))
end
/-- C(..): a new error object -/
def tErr (C : Addr) (fs : List Str) (gv : List V → List V) (ta : TA) : TE := fun σ H Q => ta σ H fun xs H1 =>
  xs.length = fs.length ∧ fs.length ≤ 900 ∧ ∀ (a : Addr) (H' : Hp), H1 a = none → Same H1 H' →
    XV H' a C (fs.zip (gv xs)).reverse → Q (.ref a) H'
theorem tErr_mk {K : PySem.W.Frag} {C : Addr} {fs : List Str} {gv : List V → List V} {H1 : Hp} {Q : VK} {xs : List V}
    (hg : (gv xs).length = xs.length)
    (h : xs.length = fs.length ∧ fs.length ≤ 900 ∧ ∀ (a : Addr) (H' : Hp), H1 a = none → Same H1 H' →
      XV H' a C (fs.zip (gv xs)).reverse → Q (.ref a) H') :
    xs.length ≤ 1000 ∧ ∀ a, H1 a = none → spIni K C fs (.ref a :: gv xs) (upd H1 a (exo a C none))
      (fun v H2 => v = .non ∧ Q (.ref a) H2) E0 := by
  obtain ⟨l, l9, k⟩ := h
  refine ⟨by omega, fun a hn => ⟨a, gv xs, rfl, by omega, upd_same, fun H' hb hx => ⟨rfl, k a H' hn (fun b o e => ?_) hx⟩⟩⟩
  exact hb b (ne_of_none e hn) o (upd_new hn e)
section
variable {X : Cx} {x : Str} {p pos : Pos} {e : Expr} {es : List Expr} {ta : TA} {fs : List Str} {j : Nat}
theorem pe_errP (M : MkE X.prog X.w X.K X.mg X.base x fs) (hr : Room j X.A) (hg : Gl X x) (ha : PA X (e :: es) ta)
    (hj : 2 ≤ j := by decide) (hdb : (x == ("__debug__" : Str)) = false := by decide)
    (he : starEach (e :: es) X.env = (false, eval e X.env) :: starEach es X.env := by rfl)
    (hpl : (backTo pos (starEach es X.env)).any (·.1) = false := by rfl) :
    PE X (.Call (.Name x p) (e :: es) [] pos) (tErr (adr X.mg x) fs id ta) := by
  obtain ⟨hm, fI, fd, XM, hb, _, F⟩ := M
  refine ⟨fun pins s σ H Q I h => ?_⟩
  refine wpAny_Call_Name_kw (ld_glob I hg hm ?_ hdb)
  refine PySem.W.callWith_K (h₀ := X.base) I.ok.mod.kin XM.T.kC
    (thn (ha.run pos pins s σ H _ I h) fun us s1 ⟨vs, H1, I1, r, q⟩ => ⟨I1.kIn, ?_⟩) he hpl
  have l := q.1
  obtain ⟨hl, q⟩ := tErr_mk (gv := id) (K := X.K) (Q := Q) rfl q
  have hz : us.length ≤ sizeLine := by
    rw [← Paired.length r, sizeLine_eq]
    omega
  refine run_mkx (us := us) XM F (hr.mono hj) I1 r (fun s' a kin => ?_) hz q
  have z := hb s' (Value.ref a :: us) kin (by
    rw [List.append_nil, List.length_cons, ← Paired.length r, l]
    rfl)
  rw [List.append_nil] at z
  exact z
theorem rel_rev {vs : List V} {us : List Value} (r : Vals vs us) : Vals vs.reverse us.reverse := by
  induction r with
  | nil => exact .nil
  | cons a b ih =>
    rw [List.reverse_cons, List.reverse_cons]
    exact ih.append (.cons a .nil)
theorem pe_errK {kws : List Keyword} {ks : List Str} (M : MkE X.prog X.w X.K X.mg X.base x fs) (hr : Room j X.A)
    (hg : Gl X x) (hkw : PK X kws ta) (hks : (backToKw pos (keywordEach kws X.env)).filterMap (·.1) = ks := by rfl)
    (hfs : ks = fs.reverse := by rfl) (hj : 2 ≤ j := by decide)
    (hall : (backToKw pos (keywordEach kws X.env)).all (·.1.isSome) = true := by rfl)
    (hdb : (x == ("__debug__" : Str)) = false := by decide)
    (hpl : ((backTo pos (starEach [] X.env)).any (·.1) ||
      (backToKw pos (keywordEach kws X.env)).any (·.1.isNone)) = false := by rfl) :
    PE X (.Call (.Name x p) [] kws pos) (tErr (adr X.mg x) fs List.reverse ta) := by
  obtain ⟨hm, fI, fd, XM, _, hb, F⟩ := M
  refine ⟨fun pins s σ H Q I h => ?_⟩
  refine wpAny_Call_Name_kw (ld_glob I hg hm ?_ hdb)
  refine PySem.W.callWith_KW0 (h₀ := X.base) I.ok.mod.kin XM.T.kC hall
    (thn (hkw.run pos pins s σ H _ I h) fun us s1 ⟨vs, H1, I1, r, q⟩ => ⟨I1.kIn, ?_⟩) hpl
  rw [hks, hfs]
  have l := q.1
  obtain ⟨hl, q⟩ := tErr_mk (gv := List.reverse) (K := X.K) (Q := Q) (by simp) q
  refine run_mkx (us := []) XM F (hr.mono hj) I1 (rel_rev r) (fun s' a kin => ?_) (Nat.zero_le _) q
  exact hb s' (Value.ref a) us (by rw [← Paired.length r, l])
/-- C(), a class without an own __init__ -/
theorem pe_err0 (E : ErrK X.K X.mg x [])
    (q : PySem.W.excIn X.K (adr X.mg x) PySem.HandSPX.veTail "ValueError.__new__" = true) (hg : Gl X x)
    (hdb : (x == ("__debug__" : Str)) = false := by decide) :
    PE X (.Call (.Name x p) [] [] pos) (tErr (adr X.mg x) [] id tNil) := by
  refine ⟨fun pins s σ H Q I h => ?_⟩
  refine wpAny_Call_Name_kw (ld_glob I hg E.mgx ?_ hdb)
  refine PySem.W.callWith_K0 I.kIn E.T.kC ?_
  show wpAny _ _ (call (.ref (adr X.mg x)) []) _ _ _
  obtain ⟨bm, N, nm, qn, bs, hdct, sn, sub, ab, col, dd, k0, k1, k2, k3, k5, mN, hC, hN, hni, T⟩ := exc_obj I.kIn q
  refine wpAny_call_exc_subT F.excBase_ValueError T hC hN hni (fun h' a hm => ?_) (Nat.zero_le _)
  have hn : H a = none := I.hok.gone hm.new
  obtain ⟨t, ht, _, _⟩ := hm.there
  obtain ⟨_, _, k⟩ := h
  exact ⟨.ref a, upd H a (exo a (adr X.mg x) none), I.laidN hm.keeps hm.new hn (exo_ok ht), rfl,
    k a _ hn (Same.new hn) (.inl ⟨rfl, upd_same⟩)⟩
end
end L2

/-! own rules 8: repr of data with dicts -/
namespace L2
open PySem PySem.Spec PyProof.Rows
def kd : Key → PyData
  | .inl i => .int i
  | .inr x => .str x
mutual
/-- what a value is as data; dicts by int and text keys -/
inductive Dq (K : PySem.W.Frag) (H : Hp) : V → PyData → Prop
  | non : Dq K H .non .none
  | bl (b : Bool) : Dq K H (.bl b) (.bool b)
  | int (i : Int) : Dq K H (.int i) (.int i)
  | str (x : Str) : Dq K H (.str x) (.str x)
  | lst {a : Addr} {xs : List V} {ds : List PyData} : SqL K H a xs → DqAll K H xs ds → Dq K H (.ref a) (.list ds)
  | tup {a : Addr} {xs : List V} {ds : List PyData} : SqT K H a xs → DqAll K H xs ds → Dq K H (.ref a) (.tuple ds)
  | dic {a : Addr} {kvs : List (Key × V)} {ds : List (PyData × PyData)} : H a = some (.dK kvs) → DqKv K H kvs ds →
      Dq K H (.ref a) (.dict ds)
inductive DqAll (K : PySem.W.Frag) (H : Hp) : List V → List PyData → Prop
  | nil : DqAll K H [] []
  | cons {v : V} {vs : List V} {d : PyData} {ds : List PyData} : Dq K H v d → DqAll K H vs ds →
      DqAll K H (v :: vs) (d :: ds)
inductive DqKv (K : PySem.W.Frag) (H : Hp) : List (Key × V) → List (PyData × PyData) → Prop
  | nil : DqKv K H [] []
  | cons {k : Key} {v : V} {vs : List (Key × V)} {d : PyData} {ds : List (PyData × PyData)} : Dq K H v d →
      DqKv K H vs ds → DqKv K H ((k, v) :: vs) ((kd k, d) :: ds)
end
section
variable {X : Cx} {pins : List (Addr × Obj)} {σ : St} {H : Hp} {s : Shared}
theorem rk_key {k : Key} {u : Value} (h : keyIs k u = true) (hs : (kd k).showable = true)
    (hz : (kd k).shown.length ≤ sizeLine) :
    Reads s.heap u (kd k) [] ∧ ∀ bs n, ReprK X.prog X.w bs s.heap n u (kd k).shown := by
  rcases keyIs_shape h with ⟨i, t, rfl, rfl⟩ | ⟨x, t, rfl, rfl⟩
  · refine ⟨Reads.int i t, fun bs n => ?_⟩
    simp only [kd, PyData.shown]
    exact .of_is (ReprIs.int t (by simpa [kd, PyData.showable] using hs)) _ _ _
  · refine ⟨Reads.str x t, fun bs n => ?_⟩
    simp only [kd, PyData.shown]
    exact .of_is (ReprIs.str x t (by simpa only [kd, PyData.shown] using hz)) _ _ _
theorem ram_app {h : Heap} {n m : Nat} {as bs : List Addr} (a : ReadAtMost h n as) (b : ReadAtMost h m bs) :
    ReadAtMost h (max n m) (as ++ bs) := by
  intro c hc
  rcases List.mem_append.mp hc with q | q
  · obtain ⟨d, xs, r, l⟩ := a c q
    exact ⟨d, xs, r, Nat.le_trans l (Nat.le_max_left _ _)⟩
  · obtain ⟨d, xs, r, l⟩ := b c q
    exact ⟨d, xs, r, Nat.le_trans l (Nat.le_max_right _ _)⟩
theorem ek_more {P : Program} {w : World} {h : Heap} {as bs : List Addr} {n m : Nat} (hs : ∀ b ∈ as, b ∈ bs) (hn : n ≤ m) :
    ∀ {es : List DictEntry} {ps : List Str}, ReprEntriesK P w as h n es ps → ReprEntriesK P w bs h m es ps
  | _, _, .nil => .nil
  | _, _, .cons a b c => .cons ((a.more hs).level_le hn) ((b.more hs).level_le hn) (ek_more hs hn c)
mutual
theorem Dq.rk (I : Inv X pins σ H s) : ∀ {v : V} {d : PyData}, Dq X.K H v d → ∀ u, RelV v u → d.showable = true →
    d.shown.length ≤ sizeLine → ∃ as bs, Reads s.heap u d as ∧ ReadAtMost s.heap d.depth bs ∧
      ReprK X.prog X.w bs s.heap d.depth u d.shown
  | _, _, .non, u, r, _, _ => by
    cases r
    exact ⟨_, [], Reads.none, fun _ h => (nomatch h), by simp only [PyData.shown]; exact .of_is ReprIs.none _ _ _⟩
  | _, _, .bl b, u, r, _, _ => by
    cases r
    exact ⟨_, [], Reads.bool b, fun _ h => (nomatch h), by simp only [PyData.shown]; exact .of_is (ReprIs.bool b) _ _ _⟩
  | _, _, .int i, u, r, hs, _ => by
    obtain ⟨t, rfl⟩ := r
    exact ⟨_, [], Reads.int i t, fun _ h => (nomatch h), by
      simp only [PyData.shown]
      exact .of_is (ReprIs.int t (by simpa [PyData.showable] using hs)) _ _ _⟩
  | _, _, .str x, u, r, _, hz => by
    obtain ⟨t, rfl⟩ := r
    exact ⟨_, [], Reads.str x t, fun _ h => (nomatch h), by
      simp only [PyData.shown]
      exact .of_is (ReprIs.str x t (by simpa only [PyData.shown] using hz)) _ _ _⟩
  | _, _, .lst (a := a) (ds := ds) hq ha, u, r, hs, hz => by
    cases r
    obtain ⟨its, rv, ⟨o, n, ho, hc, _, hd⟩, _⟩ := I.list hq
    have hz1 : (listText (PyData.shownAll ds)).length ≤ sizeLine := by simpa only [PyData.shown] using hz
    obtain ⟨as, bs, rd, hb, hk⟩ := DqAll.rk I ha its rv (by simpa [PyData.showable] using hs)
      fun t ht => Nat.le_trans (listText_mem_le ht) hz1
    have R : Reads s.heap (.ref a) (.list ds) _ := .list ho hc hd rd
    have nb : a ∉ bs := not_mem_of_deeper R (by simp only [PyData.depth]; omega) hb
    refine ⟨_, a :: bs, R, ReadAtMost.cons R (by simp only [PyData.depth]; omega) hb, ?_⟩
    simp only [PyData.depth, PyData.shown]
    cases its with
    | nil =>
      cases rd
      simp only [PyData.shownAll, listText_nil]
      exact ReprK.listEmpty ho hc hd
    | cons y l => exact ReprK.list ho hc hd nb (by simpa using hk.length_eq) fun i z e => hk.item i z (by simpa using e)
  | _, _, .tup (a := a) (ds := ds) hq ha, u, r, hs, hz => by
    cases r
    obtain ⟨its, rv, ⟨o, ho, hc, n, hd⟩, _⟩ := I.tuple hq
    have hz1 : (tupleText (PyData.shownAll ds)).length ≤ sizeLine := by simpa only [PyData.shown] using hz
    obtain ⟨as, bs, rd, hb, hk⟩ := DqAll.rk I ha its rv (by simpa [PyData.showable] using hs)
      fun t ht => Nat.le_trans (tupleText_mem_le ht) hz1
    have R : Reads s.heap (.ref a) (.tuple ds) _ := .tuple ho hc hd rd
    have nb : a ∉ bs := not_mem_of_deeper R (by simp only [PyData.depth]; omega) hb
    refine ⟨_, a :: bs, R, ReadAtMost.cons R (by simp only [PyData.depth]; omega) hb, ?_⟩
    simp only [PyData.depth, PyData.shown]
    exact ReprK.tuple ho hc hd nb hk
  | _, _, .dic (a := a) (kvs := kvs) (ds := ds) hq ha, u, r, hs, hz => by
    cases r
    obtain ⟨_, hsys, vs, rv, o, es, ep, ho, hc, hd, _, hp, _⟩ :=
      (show ObjOk X.prog X.w H s.heap a (.dK kvs) from I.hok a _ hq)
    have hz1 : (dictText (PyData.shownKv ds)).length ≤ sizeLine := by simpa only [PyData.shown] using hz
    obtain ⟨as, cs, bs, r1, r2, hb, hk⟩ := DqKv.rk I ha es.toList vs rv hp (by simpa [PyData.showable] using hs)
      fun t ht => Nat.le_trans (dictText_mem_le ht) hz1
    have R : Reads s.heap (.ref a) (.dict ds) _ := .dict ho hc.1 hd r1 r2
    have nb : a ∉ bs := not_mem_of_deeper R (by simp only [PyData.depth]; omega) hb
    refine ⟨_, a :: bs, R, ReadAtMost.cons R (by simp only [PyData.depth]; omega) hb, ?_⟩
    simp only [PyData.depth, PyData.shown]
    exact ReprK.dict ho hc.1 hd hsys nb hk
theorem DqAll.rk (I : Inv X pins σ H s) : ∀ {vs : List V} {ds : List PyData}, DqAll X.K H vs ds → ∀ us, Vals vs us →
    PyData.showableAll ds = true → (∀ t ∈ PyData.shownAll ds, t.length ≤ sizeLine) →
    ∃ as bs, ReadsAll s.heap us ds as ∧ ReadAtMost s.heap (PyData.depthAll ds) bs ∧
      ReprAllK X.prog X.w bs s.heap (PyData.depthAll ds) us (PyData.shownAll ds)
  | _, _, .nil, us, r, _, _ => by
    cases r
    exact ⟨_, [], .nil, fun _ h => (nomatch h), by simp only [PyData.shownAll]; exact .nil⟩
  | _, _, .cons (d := d) (ds := ds) h hl, us, r, hs, hz => by
    cases r with
    | cons r1 r2 =>
      have h2 : d.showable = true ∧ PyData.showableAll ds = true := by simpa [PyData.showableAll] using hs
      obtain ⟨a1, b1, q1, m1, k1⟩ := Dq.rk I h _ r1 h2.1 (hz _ (by simp only [PyData.shownAll]; exact List.mem_cons_self))
      obtain ⟨a2, b2, q2, m2, k2⟩ := DqAll.rk I hl _ r2 h2.2
        fun t ht => hz t (by simp only [PyData.shownAll]; exact List.mem_cons_of_mem _ ht)
      refine ⟨_, b1 ++ b2, .cons q1 q2, by simp only [PyData.depthAll]; exact ram_app m1 m2, ?_⟩
      simp only [PyData.depthAll, PyData.shownAll]
      exact .cons ((k1.more fun b hb => List.mem_append_left _ hb).level_le (Nat.le_max_left _ _))
        (k2.more_le (fun b hb => List.mem_append_right _ hb) (Nat.le_max_right _ _))
theorem DqKv.rk (I : Inv X pins σ H s) : ∀ {vs : List (Key × V)} {ds : List (PyData × PyData)}, DqKv X.K H vs ds →
    ∀ (es : List DictEntry) (us : List (Key × Value)), KV vs us → Pairs (mixKind X.prog X.w) es us →
    PyData.showableKv ds = true → (∀ t ∈ PyData.shownKv ds, t.length ≤ sizeLine) →
    ∃ as cs bs, ReadsAll s.heap (es.map (·.key)) (ds.map (·.1)) as ∧ ReadsAll s.heap (es.map (·.val)) (ds.map (·.2)) cs ∧
      ReadAtMost s.heap (PyData.depthKv ds) bs ∧
      ReprEntriesK X.prog X.w bs s.heap (PyData.depthKv ds) es (PyData.shownKv ds)
  | _, _, .nil, es, us, r, p, _, _ => by
    cases r
    cases p
    exact ⟨_, _, [], .nil, .nil, fun _ h => (nomatch h), by simp only [PyData.shownKv]; exact .nil⟩
  | _, _, .cons (k := k) (d := d) (ds := ds) h hl, es, us, r, p, hs, hz => by
    cases r with
    | cons r1 r2 =>
      cases p with
      | cons p1 p2 p3 =>
        obtain ⟨e1, r1⟩ := r1
        have h2 : ((kd k).showable = true ∧ d.showable = true) ∧ PyData.showableKv ds = true := by
          simpa [PyData.showableKv] using hs
        have big : ((kd k).shown ++ ": " ++ d.shown).length ≤ sizeLine :=
          hz _ (by simp only [PyData.shownKv]; exact List.mem_cons_self)
        have big2 : (kd k).shown.length + 2 + d.shown.length ≤ sizeLine := by
          have e2 : ((kd k).shown ++ ": " ++ d.shown).length = (kd k).shown.length + 2 + d.shown.length := by
            rw [Str.length_append, Str.length_append]
            rfl
          omega
        rw [← p2] at r1
        rw [← e1] at p1
        dsimp only at p1
        obtain ⟨q0, k0⟩ := rk_key (X := X) (s := s) p1 h2.1.1 (by omega)
        obtain ⟨a1, b1, q1, m1, k1⟩ := Dq.rk I h _ r1 h2.1.2 (by omega)
        obtain ⟨a2, c2, b2, q2, q3, m2, k2⟩ := DqKv.rk I hl _ _ r2 p3 h2.2
          fun t ht => hz t (by simp only [PyData.shownKv]; exact List.mem_cons_of_mem _ ht)
        refine ⟨_, _, b1 ++ b2, .cons q0 q2, .cons q1 q3, ?_, ?_⟩
        · simp only [PyData.depthKv]
          intro c hc
          obtain ⟨d', xs, r', l⟩ := ram_app m1 m2 c hc
          exact ⟨d', xs, r', by omega⟩
        · simp only [PyData.depthKv, PyData.shownKv]
          exact .cons (k0 _ _) ((k1.more fun b hb => List.mem_append_left _ hb).level_le (by omega))
            (ek_more (fun b hb => List.mem_append_right _ hb) (Nat.le_max_right _ _) k2)
end
end
section
variable {X : Cx}
/-- repr(x), x a list, a tuple or a dict of data -/
def rShq (K : PySem.W.Frag) : List V → Hp → VK → Prop := fun xs H Q => ∃ (a : Addr) (d : PyData), xs = [.ref a] ∧
  Dq K H (.ref a) d ∧ d.showable = true ∧ d.depth ≤ 60 ∧ d.shown.length ≤ sizeLine ∧ Q (.str d.shown) H
theorem call_repq (hA : X.A.guards = some []) (hu : X.A.units + 64 < cLine) :
    CallR X (.builtin "repr") (rShq X.K) := by
  intro pins s σ H xs us Q I r h
  obtain ⟨a, d, rfl, hd, hs, hdp, hz, q⟩ := h
  obtain ⟨u, rfl, ru⟩ := vals1 r
  obtain rfl : u = Value.ref a := ru
  have fin : ∀ (t : Str), t = d.shown → ∀ (h' : Heap) (u : Tok) (tk : Nat), (∀ b o, s.heap.get? b = some o → h'.get? b = some o) →
      ∃ x tt, Value.str t u = .str x tt ∧ EP X pins σ Q (.str t u) { s with heap := h', toks := tk } := by
    intro t et h' u tk keep
    subst et
    exact ⟨_, _, rfl, .str _, H, I.kept keep, ⟨u, rfl⟩, q⟩
  cases hd with
  | lst hq ha =>
    rename_i xs ds
    obtain ⟨its, rv, ⟨o, n, ho, hc, _, hdd⟩, _⟩ := I.list hq
    have hz1 : (listText (PyData.shownAll ds)).length ≤ sizeLine := by simpa only [PyData.shown] using hz
    obtain ⟨as, bs, rd, hb, hk⟩ := DqAll.rk I ha its rv (by simpa [PyData.showable] using hs)
      fun t ht => Nat.le_trans (listText_mem_le ht) hz1
    have R : Reads s.heap (.ref a) (.list ds) _ := .list ho hc hdd rd
    have nb : a ∉ bs := not_mem_of_deeper R (by simp only [PyData.depth]; omega) hb
    refine call_repr_slot (by omega) ⟨o, ho, hc⟩ F.slot_list_repr.toG ?_
    simp only [PyData.depth] at hdp
    cases its with
    | nil =>
      cases rd
      exact call_list_repr_empty ⟨o, ho, hc⟩ ho hdd (fin "[]" (by simp [PyData.shown, PyData.shownAll, listText_nil]) _ _ _ fun _ _ e => e)
    | cons y l =>
      exact call_list_reprK ho hc hdd nb (by simpa using hk.length_eq) (fun i z e => hk.item i z (by simpa using e)) hA
        (fun b _ => Clear.nil b) (by show X.A.units + 1 + _ < cLine; omega) (fun _ _ e => e)
        (fun h' u tk keep => fin _ (by simp only [PyData.shown]) h' u tk keep) hz1
  | tup hq ha =>
    rename_i xs ds
    obtain ⟨its, rv, ⟨o, ho, hc, n, hdd⟩, _⟩ := I.tuple hq
    have hz1 : (tupleText (PyData.shownAll ds)).length ≤ sizeLine := by simpa only [PyData.shown] using hz
    obtain ⟨as, bs, rd, hb, hk⟩ := DqAll.rk I ha its rv (by simpa [PyData.showable] using hs)
      fun t ht => Nat.le_trans (tupleText_mem_le ht) hz1
    have R : Reads s.heap (.ref a) (.tuple ds) _ := .tuple ho hc hdd rd
    have nb : a ∉ bs := not_mem_of_deeper R (by simp only [PyData.depth]; omega) hb
    refine call_repr_slot (by omega) ⟨o, ho, hc⟩ F.slot_tuple_repr ?_
    simp only [PyData.depth] at hdp
    exact call_tuple_reprK ho hc hdd nb hk hA (fun b _ => Clear.nil b) (by show X.A.units + 1 + _ < cLine; omega)
      (fun _ _ e => e) (fun h' u tk keep => fin _ (by simp only [PyData.shown]) h' u tk keep) hz1
  | dic hq ha =>
    rename_i kvs ds
    obtain ⟨_, hsys, vs, rv, o, es, ep, ho, hc, hdd, _, hp, _⟩ :=
      (show ObjOk X.prog X.w H s.heap a (.dK kvs) from I.hok a _ hq)
    have hz1 : (dictText (PyData.shownKv ds)).length ≤ sizeLine := by simpa only [PyData.shown] using hz
    obtain ⟨as, cs, bs, r1, r2, hb, hk⟩ := DqKv.rk I ha es.toList vs rv hp (by simpa [PyData.showable] using hs)
      fun t ht => Nat.le_trans (dictText_mem_le ht) hz1
    have R : Reads s.heap (.ref a) (.dict ds) _ := .dict ho hc.1 hdd r1 r2
    have nb : a ∉ bs := not_mem_of_deeper R (by simp only [PyData.depth]; omega) hb
    refine call_repr_slot (by omega) ⟨o, ho, hc.1⟩ F.slot_dict_repr ?_
    simp only [PyData.depth] at hdp
    exact call_dict_reprK ho hc.1 hdd hsys nb hk hA (fun b _ => Clear.nil b) (by show X.A.units + 1 + _ < cLine; omega)
      (fun _ _ e => e) (fun h' u tk keep => fin _ (by simp only [PyData.shown]) h' u tk keep) hz1
end
end L2

/-! own rules 9: lists or tuples alike, static methods, max with a default -/
namespace L2
open PySem PySem.Spec PyProof.Rows
/-- a list or a tuple -/
def SqS (K : PySem.W.Frag) (H : Hp) (a : Addr) (xs : List V) : Prop := SqL K H a xs ∨ SqT K H a xs
def iSeq (K : PySem.W.Frag) (tl : TE) : TI := fun σ H R => tl σ H fun x H1 => ∃ a, x = .ref a ∧
  (((∃ xs, SqL K H1 a xs) ∧ R (Itl K a) H1) ∨ ((∃ xs, SqT K H1 a xs) ∧ R (Itt K a) H1))
section
variable {X : Cx} {tg : Expr}
theorem pi_seq {l : Expr} {tl : TE} (hl : PE X l tl) : PI X tg l (iSeq X.K tl) := by
  refine ⟨fun pins s σ H R I h => ?_⟩
  refine thn (hl.run pins s σ H _ I h) fun v s1 ⟨x, H1, I1, r1, q1⟩ => ?_
  obtain ⟨a, e, q1⟩ := q1
  subst e
  cases r1
  have fp : ∀ b ∈ [s1.heap.objs.size], FpOk X pins H1 b := fun b hb => by
    obtain rfl : b = s1.heap.objs.size := by simpa using hb
    exact I1.fpOk (Nat.le_refl _) (I1.hok.fresh (Nat.le_refl _))
  rcases q1 with ⟨⟨xs, hq⟩, q⟩ | ⟨⟨xs, hq⟩, q⟩
  · obtain ⟨its, rv, p, _⟩ := I1.list hq
    refine wpAny_pyIter_list p.isList ?_
    exact ⟨s1.heap.objs.size, [s1.heap.objs.size], _, _, H1, rfl,
      I1.kept (t' := s1.toks) (fun b o e => Heap.get?_push_of_some _ e), turn_list a _,
      ⟨_, Heap.get?_push_size _ rfl, rfl, rfl⟩, fp, q⟩
  · obtain ⟨its, rv, p, _⟩ := I1.tuple hq
    refine wpAny_pyIter_tuple (show s1.heap.IsTuple a its.toArray from p) ?_
    exact ⟨s1.heap.objs.size, [s1.heap.objs.size], _, _, H1, rfl,
      I1.kept (t' := s1.toks) (fun b o e => Heap.get?_push_of_some _ e), turn_tuple a _,
      ⟨_, Heap.get?_push_size _ rfl, rfl, rfl⟩, fp, q⟩
end
/-- a comprehension over a list or a tuple, by one word -/
theorem lc_seq {K : PySem.W.Frag} {a : Addr} {xs : List V} {tl : TE} {g : TG} {tt : TT} {te : TE} {vs : List Nat} {σ : St}
    {H : Hp} {Q : VK} (he : ∀ R : V → Hp → Prop, R (.ref a) H → tl σ H R) (hs : SqS K H a xs)
    (hl : SqL K H a xs → tLc (iList K tl) g tt te vs σ H Q) (ht : SqT K H a xs → tLc (iTup K tl) g tt te vs σ H Q) :
    True := trivial
theorem SqS.new {K : PySem.W.Frag} {H H' : Hp} {a : Addr} {xs : List V} (h : SqS K H a xs) (s : Same H H') : SqS K H' a xs := by
  rcases h with ((h | ⟨o, h⟩) | h) | ((h | ⟨o, h⟩) | h)
  · exact .inl (.inl (.inl (s _ _ h)))
  · exact .inl (.inl (.inr ⟨o, s _ _ h⟩))
  · exact .inl (.inr h)
  · exact .inr (.inl (.inl (s _ _ h)))
  · exact .inr (.inl (.inr ⟨o, s _ _ h⟩))
  · exact .inr (.inr h)
theorem SqS.len {K : PySem.W.Frag} {H : Hp} {a : Addr} {xs : List V} (h : SqS K H a xs) : LenV K (.ref a) H xs.length := by
  rcases h with h | h
  · exact .inl ⟨xs, h, rfl⟩
  · exact .inr ⟨xs, h, rfl⟩
theorem SqS.ix {K : PySem.W.Frag} {H : Hp} {a : Addr} {xs : List V} (h : SqS K H a xs) {i : Int} {v : V} {Q : VK}
    (e : atI xs i = some v) (q : Q v H) : rIx K (.ref a) (.int i) H Q := by
  rcases h with h | h
  · exact .inl ⟨a, xs, i, v, rfl, rfl, h, e, q⟩
  · exact .inr (.inl ⟨a, xs, i, v, rfl, rfl, h, e, q⟩)
/-! ### a static method off a class -/
structure SMet (K : PySem.W.Frag) (C : Addr) (m : Str) (g : Addr) : Prop where
  ex : ∃ mc p rest, PySem.W.readsIn K C mc = true ∧
    PySem.W.findCls K (.ref C) mc m = some (.get (.builtin "staticmethod.__get__") (.ref p) .none (.ref C)) ∧
    PySem.W.recIn K p "staticmethod" = some (.ref g :: rest)
  ga : PySem.W.specialIn K (.ref C) "__getattribute__" = some (some (.builtin "type.__getattribute__"))
  kp : PySem.W.keepIn K (.ref g) = true
def tSMeth (C : Addr) (sp : Sp) (dvs : List V) (E : XK) (ta : TE) (t : TA) : TE := fun σ H Q => ta σ H fun x H1 =>
  x = .ref C ∧ t σ H1 fun vs H2 => sp (vs ++ dvs) H2 Q E
section
variable {X : Cx} {CX : CXT} {k : Nat} {C g : Addr} {m : Str} {fd : FuncData} {ps : List Str} {sp : Sp} {dvs : List V}
  {ds : List Value} {E : XK} {e o : Expr} {es : List Expr} {pos apos : Pos} {ta : TE} {t : TA}
theorem getsm {pins : List (Addr × Obj)} {σ : St} {H : Hp} {s : Shared} {pl : Sem Bool} {A : Around}
    {E' : Value → Shared → Prop} {Q : Value × List Value → Shared → Prop} (I : Inv X pins σ H s) (M : SMet X.K C m g)
    (h : ∀ s', Inv X pins σ H s' → Q (.ref g, []) s') :
    wpAny (model X.prog X.w) A (getMethod (.ref C) m pl) Q E' s := by
  obtain ⟨mc, p, rest, hr, hf, hp⟩ := M.ex
  refine PySem.W.method_cls I.kIn M.ga ?_
  refine PySem.W.cls_bind I.kIn hr hf (wpAny_call (PySem.W.sm_get (s := { s with toks := s.toks + 1 }) I.kIn hp
    (PySem.W.handed_on rfl ?_)))
  exact h _ (I.tok _)
/-- C.m(e, ..), m a static method -/
theorem pe_sm {pl : Sem Bool} (he : PE X o ta) (M : SMet X.K C m g)
    (F : FnOk X.prog X.w X.K X.mg X.base CX k g fd ps sp) (hr : Room k X.A) (hb : Binds X.K fd ps ds) (hd : Vals dvs ds)
    (hx : Passes CX X E) (ha : PA X (e :: es) t)
    (hst : starEach (e :: es) X.env = (false, eval e X.env) :: starEach es X.env := by rfl)
    (hpl : (backTo pos (starEach es X.env)).any (·.1) = false := by rfl)
    (ht : eval (.Call (.Attribute o m apos) (e :: es) [] pos) X.env = (do
      let ov ← eval o X.env
      standAt apos.atName
      let (f, first) ← holding [ov] (getMethod ov m pl)
      callWith pos f first (backTo pos (starEach (e :: es) X.env)) (backToKw pos (keywordEach [] X.env))) := by rfl) :
    PE X (.Call (.Attribute o m apos) (e :: es) [] pos) (tSMeth C sp dvs E ta t) := by
  refine ⟨fun pins s σ H Q I h => ?_⟩
  refine PySem.W.methodCall_KW (pl := pl) (thn (he.run pins s σ H _ I h) fun u s1 ⟨x, H1, I1, rx, ex, q⟩ => ?_) ht
  subst ex
  obtain rfl : u = Value.ref C := rx
  refine getsm I1 M fun s2 I2 => ?_
  refine PySem.W.callWith_K (first := []) (h₀ := X.base) I2.ok.mod.kin M.kp
    (thn (ha.run pos pins s2 σ H1 _ I2 q) fun us s3 ⟨vs, H2, I3, r, q2⟩ => ⟨I3.kIn, ?_⟩) hst hpl
  exact run_fn F hr hb hd hx I3 r q2
/-- C.m() -/
theorem pe_sm0 {pl : Sem Bool} (he : PE X o ta) (M : SMet X.K C m g)
    (F : FnOk X.prog X.w X.K X.mg X.base CX k g fd ps sp) (hr : Room k X.A) (hb : Binds X.K fd ps ds) (hd : Vals dvs ds)
    (hx : Passes CX X E)
    (ht : eval (.Call (.Attribute o m apos) [] [] pos) X.env = (do
      let ov ← eval o X.env
      standAt apos.atName
      let (f, first) ← holding [ov] (getMethod ov m pl)
      callWith pos f first (backTo pos (starEach [] X.env)) (backToKw pos (keywordEach [] X.env))) := by rfl) :
    PE X (.Call (.Attribute o m apos) [] [] pos) (tSMeth C sp dvs E ta tNil) := by
  refine ⟨fun pins s σ H Q I h => ?_⟩
  refine PySem.W.methodCall_KW (pl := pl) (thn (he.run pins s σ H _ I h) fun u s1 ⟨x, H1, I1, rx, ex, q⟩ => ?_) ht
  subst ex
  obtain rfl : u = Value.ref C := rx
  refine getsm I1 M fun s2 I2 => ?_
  exact PySem.W.callWith_K0 (first := []) I2.kIn M.kp (run_fn (us := []) F hr hb hd hx I2 .nil q)
end
end L2

/-! own rules 10: comprehensions whose parts change nothing -/
namespace L2
open PySem PySem.Spec PyProof.Rows
/-- what a comprehension makes of its items: r by the turn and the item, none where a test leaves it out -/
def fm (r : Nat → V → Option V) : Nat → List V → List V
  | _, [] => []
  | i, x :: xs => (r i x).toList ++ fm r (i + 1) xs
theorem fm_len (r : Nat → V → Option V) : ∀ (xs : List V) (i : Nat), (fm r i xs).length ≤ xs.length
  | [], _ => Nat.le_refl _
  | x :: xs, i => by
    have := fm_len r xs (i + 1)
    unfold fm
    rw [List.length_append, List.length_cons]
    have : ((r i x).toList).length ≤ 1 := by cases r i x <;> simp
    omega
theorem fm_snoc (r : Nat → V → Option V) : ∀ (xs : List V) (x : V) (i : Nat),
    fm r i (xs ++ [x]) = fm r i xs ++ (r (i + xs.length) x).toList
  | [], x, i => by simp [fm]
  | y :: ys, x, i => by
    have e : i + 1 + ys.length = i + (y :: ys).length := by rw [List.length_cons]; omega
    show (r i y).toList ++ fm r (i + 1) (ys ++ [x]) = _
    rw [fm_snoc r ys x (i + 1), e, ← List.append_assoc]
    rfl
/-- one turn's parts -/
def Pure1 (r : Nat → V → Option V) (g : TG) (tt : TT) (te : TE) (vs : List Nat) (σ : St) (i : Nat) (x : V) (H : Hp) : Prop :=
  ∀ (Ky : VK) (Kn : Hp → Prop), (∀ y, r i x = some y → Ky y H) → (r i x = none → Kn H) →
    g x (wipe σ vs) H fun σ2 H2 => wipe σ2 vs = wipe σ vs ∧ tt σ2 H2 fun b H3 => if b = true then te σ2 H3 Ky else Kn H3
theorem pure_turn {r : Nat → V → Option V} {g : TG} {tt : TT} {te : TE} {vs : List Nat} {σ : St} {H1 : Hp} {D : Addr}
    {xs : List V} {i : Nat} {x : V} {Pv : Nat → Hp → Prop} (hx : xs[i]? = some x) (hz : xs.length ≤ sizeLine)
    (hP : ∀ j H, Pv j H ↔ H = upd H1 D (.lst (fm r 0 (xs.take j)))) {H : Hp} (hH : Pv i H)
    (h : Pure1 r g tt te vs σ i x H) :
    g x (wipe σ vs) H fun σ2 H2 => wipe σ2 vs = wipe σ vs ∧ tt σ2 H2 fun b H3 =>
      if b = true then te σ2 H3 fun y H4 => ∃ acc, H4 D = some (.lst acc) ∧ acc.length < sizeLine ∧
        Pv (i + 1) (upd H4 D (.lst (acc ++ [y]))) else Pv (i + 1) H3 := by
  have e := (hP i H).mp hH
  have hi : i < xs.length := (List.getElem?_eq_some_iff.mp hx).1
  have tk : xs.take (i + 1) = xs.take i ++ [x] := by
    rw [List.take_add_one, hx]
    rfl
  have l : (xs.take i).length = i := by rw [List.length_take]; omega
  have sn : fm r 0 (xs.take (i + 1)) = fm r 0 (xs.take i) ++ (r i x).toList := by
    rw [tk, fm_snoc, l, Nat.zero_add]
  refine h _ _ (fun y hy => ?_) fun hn => ?_
  · refine ⟨fm r 0 (xs.take i), by rw [e]; exact upd_same, ?_, (hP _ _).mpr ?_⟩
    · have := fm_len r (xs.take i) 0
      omega
    · rw [e, upd_upd, sn, hy]
      rfl
  · rw [hP, e, sn, hn]
    simp
section
variable {K : PySem.W.Frag} {a : Addr} {xs : List V} {r : Nat → V → Option V} {g : TG} {tt : TT} {te : TE}
  {vs : List Nat} {σ : St} {H : Hp} {Q : VK} {tl : TE}
theorem SqS.at_new {H : Hp} {D : Addr} {u : HO} (h : SqS K H a xs) (hD : H D = none) : SqS K (upd H D u) a xs :=
  h.new (Same.new hD)
theorem sqL_upd {H : Hp} {D : Addr} {u : HO} (h : SqL K H a xs) (hD : H D = none) : SqL K (upd H D u) a xs := sq_new hD h
theorem sqT_upd {H : Hp} {D : Addr} {u : HO} (h : SqT K H a xs) (hD : H D = none) : SqT K (upd H D u) a xs := by
  rcases h with (h | ⟨o, h⟩) | h
  · exact .inl (.inl (upd_new hD h))
  · exact .inl (.inr ⟨o, upd_new hD h⟩)
  · exact .inr h
/-- [.. for x in a list] -/
theorem tlc_list (hs : SqL K H a xs) (hz : xs.length ≤ sizeLine) (htl : ∀ R : VK, R (.ref a) H → tl σ H R)
    (ht : ∀ i x H', xs[i]? = some x → Same H H' → Pure1 r g tt te vs σ i x H')
    (hQ : ∀ D, H D = none → Q (.ref D) (upd H D (.lst (fm r 0 xs)))) : tLc (iList K tl) g tt te vs σ H Q := by
  refine htl _ ⟨a, rfl, ⟨xs, hs⟩, fun D hD => ?_⟩
  refine lc_list (K := K) (a := a) (xs := xs) (fun j H' => H' = upd H D (.lst (fm r 0 (xs.take j)))) rfl
    (fun i H' _ e => by rw [e]; exact sqL_upd hs hD) (fun i x H' hx e => ?_) fun H' e => ?_
  · exact pure_turn hx hz (fun _ _ => Iff.rfl) e (ht i x H' hx (by rw [e]; exact Same.new hD))
  · rw [e, List.take_of_length_le (Nat.le_refl _)]
    exact hQ D hD
/-- [.. for x in a tuple] -/
theorem tlc_tup (hs : SqT K H a xs) (hz : xs.length ≤ sizeLine) (htl : ∀ R : VK, R (.ref a) H → tl σ H R)
    (ht : ∀ i x H', xs[i]? = some x → Same H H' → Pure1 r g tt te vs σ i x H')
    (hQ : ∀ D, H D = none → Q (.ref D) (upd H D (.lst (fm r 0 xs)))) : tLc (iTup K tl) g tt te vs σ H Q := by
  refine htl _ ⟨a, rfl, ⟨xs, hs⟩, fun D hD => ?_⟩
  refine lc_tup (K := K) (a := a) (xs := xs) (fun j H' => H' = upd H D (.lst (fm r 0 (xs.take j)))) rfl
    (fun i H' _ e => by rw [e]; exact sqT_upd hs hD) (fun i x H' hx e => ?_) fun H' e => ?_
  · exact pure_turn hx hz (fun _ _ => Iff.rfl) e (ht i x H' hx (by rw [e]; exact Same.new hD))
  · rw [e, List.take_of_length_le (Nat.le_refl _)]
    exact hQ D hD
/-- [.. for x in a list or a tuple] -/
theorem tlc_seq (hs : SqS K H a xs) (hz : xs.length ≤ sizeLine) (htl : ∀ R : VK, R (.ref a) H → tl σ H R)
    (ht : ∀ i x H', xs[i]? = some x → Same H H' → Pure1 r g tt te vs σ i x H')
    (hQ : ∀ D, H D = none → Q (.ref D) (upd H D (.lst (fm r 0 xs)))) : tLc (iSeq K tl) g tt te vs σ H Q := by
  rcases hs with hs | hs
  · exact htl _ ⟨a, rfl, .inl ⟨⟨xs, hs⟩, fun D hD => lc_list (K := K) (a := a) (xs := xs)
      (fun j H' => H' = upd H D (.lst (fm r 0 (xs.take j)))) rfl (fun i H' _ e => by rw [e]; exact sqL_upd hs hD)
      (fun i x H' hx e => pure_turn hx hz (fun _ _ => Iff.rfl) e (ht i x H' hx (by rw [e]; exact Same.new hD)))
      fun H' e => by rw [e, List.take_of_length_le (Nat.le_refl _)]; exact hQ D hD⟩⟩
  · exact htl _ ⟨a, rfl, .inr ⟨⟨xs, hs⟩, fun D hD => lc_tup (K := K) (a := a) (xs := xs)
      (fun j H' => H' = upd H D (.lst (fm r 0 (xs.take j)))) rfl (fun i H' _ e => by rw [e]; exact sqT_upd hs hD)
      (fun i x H' hx e => pure_turn hx hz (fun _ _ => Iff.rfl) e (ht i x H' hx (by rw [e]; exact Same.new hD)))
      fun H' e => by rw [e, List.take_of_length_le (Nat.le_refl _)]; exact hQ D hD⟩⟩
theorem SqS.ty {K : PySem.W.Frag} {H : Hp} {a : Addr} {xs : List V} (h : SqS K H a xs) :
    ∃ T : String, (T = "list" ∨ T = "tuple") ∧ TyX K H (.ref a) (.type T) := by
  rcases h with ((h | ⟨o, h⟩) | ⟨o, _, _, h, c, _⟩) | ((h | ⟨o, h⟩) | ⟨o, _, _, h, c, _⟩)
  · exact ⟨_, .inl rfl, .base (.lst h)⟩
  · exact ⟨_, .inl rfl, .base (.frz h)⟩
  · exact ⟨_, .inl rfl, .kList h c⟩
  · exact ⟨_, .inr rfl, .base (.tup h)⟩
  · exact ⟨_, .inr rfl, .fTuple h⟩
  · exact ⟨_, .inr rfl, .kTuple h c⟩
theorem kit_lt {K : PySem.W.Frag} {T : String} (h : T = "list" ∨ T = "tuple") :
    PySem.W.kitAny K (.type T) [.type "list", .type "tuple"] = some true := by
  rcases h with rfl | rfl
  · refine kitAny_cons (b := true) (kit_ty (by decide +kernel)) (fun z => by cases z) fun _ => rfl
  · refine kitAny_cons (b := false) (kit_ty (by decide +kernel)) (fun _ => ?_) fun z => by cases z
    exact kitAny_cons (b := true) (kit_ty (by decide +kernel)) (fun z => by cases z) fun _ => rfl
theorem fm_map (f : V → V) (r : Nat → V → Option V) (h : ∀ i x, r i x = some (f x)) :
    ∀ (xs : List V) (i : Nat), fm r i xs = xs.map f
  | [], _ => rfl
  | x :: xs, i => by
    unfold fm
    rw [h, fm_map f r h xs]
    rfl
theorem all_true (xs : List V) : fm (fun _ _ => some (V.bl true)) 0 xs = (xs.map fun _ => true).map V.bl := by
  rw [fm_map (fun _ => V.bl true) _ (fun _ _ => rfl), List.map_map]
  rfl
theorem yes_run {te : TE} {σ : St} {H : Hp} {Ky : VK} {Kn : Hp → Prop} (h : te σ H Ky) :
    tYes σ H fun b H3 => if b = true then te σ H3 Ky else Kn H3 := by
  show if true = true then te σ H Ky else Kn H
  rw [if_pos rfl]
  exact h
/-- a module's whole number -/
theorem pe_cst {X : Cx} {x : Str} {i : Int} {pos : Pos} (hg : Gl X x) (h : ∃ t, X.mg x = some (.int i t))
    (hd : (x == ("__debug__" : Str)) = false := by decide) : PE X (.Name x pos) (tC (.int i)) := by
  obtain ⟨t, e⟩ := h
  exact pe_glob hg e ⟨t, rfl⟩ hd
/-- the ints of a range -/
def rngV (lo : Int) (n : Nat) : List V := (List.range n).map fun (i : Nat) => V.int (lo + (i : Int))
theorem rngV_at {lo : Int} {n i : Nat} (h : i < n) : (rngV lo n)[i]? = some (.int (lo + (i : Int))) := by
  unfold rngV
  rw [List.getElem?_map, List.getElem?_range h]
  rfl
theorem rngV_len (lo : Int) (n : Nat) : (rngV lo n).length = n := by
  unfold rngV
  rw [List.length_map, List.length_range]
theorem lc_rng {lo : Int} {n : Nat} {D : Addr} {Qd : Hp → Prop} (hz : n ≤ sizeLine) (hD : H D = none)
    (ht : ∀ i H', i < n → Same H H' → Pure1 r g tt te vs σ i (.int (lo + (i : Int))) H')
    (hQ : Qd (upd H D (.lst (fm r 0 (rngV lo n))))) :
    ∃ W : Nat → Nat → Hp → Prop, (∃ m, W 0 m (upd H D (.lst []))) ∧ ∀ i m H, W i m H →
      ((Itr lo n).stop i H ∧ Qd H) ∨ ((Itr lo n).go i H ∧ ∃ Nx : Hp → Prop,
        (∀ H', Nx H' → ∃ m', m' < m ∧ W (i + 1) m' H') ∧ ∀ x H', (Itr lo n).yld i H x H' → g x (wipe σ vs) H'
          fun σ2 H2 => wipe σ2 vs = wipe σ vs ∧ tt σ2 H2 fun b H3 => if b = true then te σ2 H3 fun y H4 =>
            ∃ acc, H4 D = some (.lst acc) ∧ acc.length < sizeLine ∧ Nx (upd H4 D (.lst (acc ++ [y]))) else Nx H3) := by
  refine lc_range (lo := lo) (n := n) (fun j H' => H' = upd H D (.lst (fm r 0 ((rngV lo n).take j)))) rfl
    (fun i H' hi e => ?_) fun H' e => ?_
  · exact pure_turn (xs := rngV lo n) (rngV_at hi) (by rw [rngV_len]; exact hz) (fun _ _ => Iff.rfl) e
      (ht i H' hi (by rw [e]; exact Same.new hD))
  · rw [e, List.take_of_length_le (by rw [rngV_len]; exact Nat.le_refl _)]
    exact hQ
end
end L2

/-! own rules 11: slices and indices -/
namespace L2
open PySem PySem.Spec PyProof.Rows
theorem cut_from (xs : List V) (b : Nat) : cutV xs (some (b : Int)) none = xs.drop b := by
  have q : cutV xs (some (b : Int)) none = (xs.drop (HT.sIx xs.length 0 (some (b : Int)))).take
      (HT.sIx xs.length xs.length none - HT.sIx xs.length 0 (some (b : Int))) := rfl
  rw [q, HT.sIx_nat, HT.sIx_none]
  by_cases h : b ≤ xs.length
  · rw [Nat.min_eq_left h, List.take_of_length_le]
    rw [List.length_drop]
    exact Nat.le_refl _
  · rw [Nat.min_eq_right (by omega), List.drop_of_length_le (by omega), List.drop_of_length_le (by omega)]
    simp
theorem cut_to (xs : List V) (k : Nat) : cutV xs none (some (k : Int)) = xs.take k := by
  have q : cutV xs none (some (k : Int)) = (xs.drop (HT.sIx xs.length 0 none)).take
      (HT.sIx xs.length xs.length (some (k : Int)) - HT.sIx xs.length 0 none) := rfl
  rw [q, HT.sIx_nat, HT.sIx_none, List.drop_zero]
  by_cases h : k ≤ xs.length
  · rw [Nat.min_eq_left h]
    rfl
  · rw [Nat.min_eq_right (by omega), List.take_of_length_le (by omega), List.take_of_length_le (by omega)]
theorem fm_idx (r : Nat → V → Option V) (f : Nat → V) (h : ∀ i x, r i x = some (f i)) : ∀ (xs : List V) (k : Nat),
    fm r k xs = (List.range xs.length).map fun i => f (k + i)
  | [], _ => rfl
  | x :: xs, k => by
    unfold fm
    rw [h, fm_idx r f h xs (k + 1), List.length_cons, List.range_succ_eq_map]
    simp only [Option.toList, List.singleton_append, List.map_cons, List.map_map]
    congr 1
    apply List.map_congr_left
    intro i _
    show f (k + 1 + i) = f (k + (i + 1))
    congr 1
    omega
end L2

/-! own rules 12: defs by name, for callers of whose guards nothing is known -/
namespace L2
open PySem PySem.Spec PyProof.Rows
/-- what a def of the top keeps, whatever its guards are -/
def Kf (P : Program) (w : World) (K : PySem.W.Frag) (mg : Str → Option Value) (base : Heap) (k : Nat) (x : Str)
    (ps : List Str) (sp : Sp) : Prop :=
  ∃ f fd, mg x = some (.ref f) ∧ PySem.W.keepIn K (.ref f) = true ∧ Binds K fd ps [] ∧
    FnOk P w K mg base CX0 k f fd ps sp
section
variable {P : Program} {w : World} {K : PySem.W.Frag} {mg : Str → Option Value} {base : Heap}
theorem OwnD.okF {x : Str} {st : Stmt} {N ps : List Str} {k : Nat} {sp : Sp} (O : OwnD K mg x st ps)
    (S : FnScope N ps (defScope st)) (len : ∀ vs H Q E, sp vs H Q E → vs.length = ps.length)
    (hbody : ∀ (f : Addr) (cdv : Value) (A : Around) (outer : List Env) (s : Shared) (H : Hp) (vs : List V) (Q : VK)
      (E : XK), True →
      Room k (A.deeper (envOfC x (defScope st) s.heap.objs.size f cdv)) → sp vs H Q E →
      ∃ t, PSs (cxOf CX0 P w K mg base N x (defScope st) f cdv A outer s H E).nox (defBody st) t ∧
        t { nx := fun _ H' => Q .non H', rt := Q } (start N vs) H) :
    Kf P w K mg base (k + 1) x ps sp := by
  obtain ⟨f, fd, hm, F, b⟩ := O
  exact ⟨f, fd, hm, F.kp, b, F.ok S len fun cdv A outer s H vs Q E hr h => hbody f cdv A outer s H vs Q E trivial hr h⟩
end
section
variable {X : Cx} {k j : Nat} {ps : List Str} {sp : Sp} {x : Str} {p pos : Pos} {e : Expr} {es : List Expr} {t : TA}
theorem pe_kf (F : Kf X.prog X.w X.K X.mg X.base k x ps sp) {G : Prop} (hA : G) (hr : Room j X.A)
    (hg : Gl X x) (ha : PA X (e :: es) t) (hj : k ≤ j := by decide)
    (hdb : (x == ("__debug__" : Str)) = false := by decide)
    (he : starEach (e :: es) X.env = (false, eval e X.env) :: starEach es X.env := by rfl)
    (hpl : (backTo pos (starEach es X.env)).any (·.1) = false := by rfl)
    (hx : Passes CX0 X E0 := by exact pass0) :
    PE X (.Call (.Name x p) (e :: es) [] pos) (tCall sp [] E0 t) := by
  obtain ⟨f, fd, hm, hk, hb, G⟩ := F
  exact pe_call G (hr.mono hj) hg hm hk hb .nil hx ha hdb he hpl
end
end L2

/-! own rules 13: max(xs, default=..) of whole numbers -/
namespace L2
open PySem PySem.Spec PyProof.Rows
def rMaxD (vs zs : List V) (H : Hp) (Q : VK) : Prop := ∃ (a : Addr) (ns : List Int) (z : V), vs = [.ref a] ∧ zs = [z] ∧
  H a = some (.lst (ns.map V.int)) ∧ (ns = [] → Q z H) ∧ ∀ m, m ∈ ns → (∀ y ∈ ns, y ≤ m) → Q (.int m) H
theorem reads_ints {h : Heap} : ∀ {ns : List Int} {us : List Value}, Vals (ns.map V.int) us →
    ReadsAll h us (ns.map PyData.int) []
  | [], _, r => by
    cases r
    exact .nil
  | n :: ns, _, r => by
    cases r with
    | cons a b =>
      obtain ⟨t, rfl⟩ := a
      exact ReadsAll.cons (as := []) (.int n t) (reads_ints b)
theorem alike_ints (ns : List Int) : PySem.W.AlikeAll (ns.map PyData.int) := by
  constructor
  · intro x hx y hy
    obtain ⟨a, _, rfl⟩ := List.mem_map.mp hx
    obtain ⟨b, _, rfl⟩ := List.mem_map.mp hy
    simp [PySem.W.alike]
  · intro x hx
    obtain ⟨a, _, rfl⟩ := List.mem_map.mp hx
    intro h
    cases h
theorem depth_ints : ∀ ns : List Int, PyData.depthAll (ns.map PyData.int) ≤ 1
  | [] => by simp [PyData.depthAll]
  | n :: ns => by
    have := depth_ints ns
    simp [PyData.depthAll, PyData.depth]
    omega
theorem foldl_max_spec : ∀ (ns : List Int) (n : Int), (ns.foldl max n ∈ n :: ns) ∧ ∀ y ∈ n :: ns, y ≤ ns.foldl max n
  | [], n => ⟨List.mem_singleton_self _, fun y hy => by
      rw [List.mem_singleton] at hy
      rw [hy]
      exact Int.le_refl _⟩
  | k :: ns, n => by
    obtain ⟨h1, h2⟩ := foldl_max_spec ns (max n k)
    rw [List.foldl_cons]
    refine ⟨?_, fun y hy => ?_⟩
    · rcases List.mem_cons.mp h1 with e | e
      · rw [e]
        rcases Int.le_total n k with z | z
        · rw [Int.max_eq_right z]
          simp
        · rw [Int.max_eq_left z]
          simp
      · exact List.mem_cons_of_mem _ (List.mem_cons_of_mem _ e)
    · have h3 := h2 (max n k) (List.mem_cons_self ..)
      rcases List.mem_cons.mp hy with e | e
      · rw [e]
        exact Int.le_trans (Int.le_max_left n k) h3
      · rcases List.mem_cons.mp e with e | e
        · rw [e]
          exact Int.le_trans (Int.le_max_right n k) h3
        · exact h2 y (List.mem_cons_of_mem _ e)
theorem cr_maxD {X : Cx} (hcm : X.calm = true) (hu : X.A.units + 64 < cLine) : CallRK X (.builtin "max") ["default"] rMaxD := by
  intro pins s σ H xs zs us ws Q I r rz h
  obtain ⟨a, ns, z, rfl, rfl, hl, q0, q1⟩ := h
  obtain ⟨u, rfl, ru⟩ := vals1 r
  obtain rfl : u = Value.ref a := ru
  obtain ⟨d, rfl, rd⟩ := vals1 rz
  obtain ⟨its, rv, ⟨o, n, ho, hc, _, hdd⟩, _⟩ := I.list (SqL.of hl)
  have R := reads_ints (h := s.heap) rv
  refine PySem.W.max_list_default (as := []) (I.ok.hd hcm) ⟨o, ho, hc, n, hdd⟩ (by simpa using R) (alike_ints ns) (by have := depth_ints ns; omega) (fun e h' tk keep => ?_) fun y ys i v h' tk bs e hv rd' keep => ?_
  · refine ⟨z, H, I.kept keep, rd, q0 ?_⟩
    cases ns with
    | nil => rfl
    | cons a l => cases e
  · cases ns with
    | nil => cases e
    | cons n1 ns1 =>
      obtain ⟨rfl, rfl⟩ : y = .int n1 ∧ ys = ns1.map PyData.int := by
        rw [List.map_cons] at e
        cases e
        exact ⟨rfl, rfl⟩
      rw [PySem.W.maxD_ints] at rd'
      generalize hm : List.foldl max n1 ns1 = m at rd'
      have sp := foldl_max_spec ns1 n1
      rw [hm] at sp
      cases rd' with
      | int _ t => exact ⟨.int m, H, I.kept keep, ⟨t, rfl⟩, q1 m sp.1 sp.2⟩
end L2

/-! own rules 14: methods, properties, class calls with defaults, by facts that name no address -/
namespace L2
open PySem PySem.Spec PyProof.Rows
/-- a reading may be made weaker -/
theorem PE.weaker {X : Cx} {e : Expr} {t t' : TE} (h : PE X e t) (imp : ∀ σ H Q, t' σ H Q → t σ H Q) : PE X e t' :=
  ⟨fun pins s σ H Q I z => h.run pins s σ H Q I (imp σ H Q z)⟩
/-- a def of a class, its own text -/
abbrev MD (K : PySem.W.Frag) (x qual : Str) (st : Stmt) (dvs : List V) (f : Addr) (fd : FuncData) : Prop :=
  FunD K x qual (defArgs st) (defBody st) (defScope st) dvs [] f fd
section
variable {P : Program} {w : World} {K : PySem.W.Frag} {mg : Str → Option Value} {base : Heap}
theorem FunD.okM {x qual : Str} {st : Stmt} {dvs : List V} {f : Addr} {fd : FuncData} {N ps : List Str} {k : Nat} {sp : Sp}
    (F : MD K x qual st dvs f fd)
    (S : FnScope N ps (defScope st)) (len : ∀ vs H Q E, sp vs H Q E → vs.length = ps.length)
    (hbody : ∀ (f : Addr) (cdv : Value) (A : Around) (outer : List Env) (s : Shared) (H : Hp) (vs : List V) (Q : VK)
      (E : XK), True →
      Room k (A.deeper (envOfC qual (defScope st) s.heap.objs.size f cdv)) → sp vs H Q E →
      ∃ t, PSs (cxOf CX0 P w K mg base N qual (defScope st) f cdv A outer s H E).nox (defBody st) t ∧
        t { nx := fun _ H' => Q .non H', rt := Q } (start N vs) H) :
    FnOk P w K mg base CX0 (k + 1) f fd ps sp :=
  F.ok S len fun cdv A outer s H vs Q E hr h =>
    have ⟨t, ht, q⟩ := hbody f cdv A outer s H vs Q E trivial hr h
    ⟨t, ht.nox, q⟩
/-- what a property keeps -/
def Kpr (P : Program) (w : World) (K : PySem.W.Frag) (mg : Str → Option Value) (base : Heap) (C : Addr) (k : Nat) (x : Str)
    (sp : Sp) : Prop :=
  ∃ p g fd, PropOf K C x p g ∧ Binds K fd ["self"] [] ∧ FnOk P w K mg base CX0 k g fd ["self"] sp
/-- what making an object keeps, all arguments given -/
def Kmk (P : Program) (w : World) (K : PySem.W.Frag) (mg : Str → Option Value) (base : Heap) (C : Addr) (k : Nat) (ps : List Str)
    (sp : Sp) (Dv : V → Prop) : Prop :=
  ∃ f fd d, Mk K C f ∧ Binds K fd ps [] ∧ (∃ ds, Vals [d] ds ∧ Binds K fd ps ds) ∧ Dv d ∧ FnOk P w K mg base CX0 k f fd ps sp
/-- what a static method keeps -/
def Ksm (P : Program) (w : World) (K : PySem.W.Frag) (mg : Str → Option Value) (base : Heap) (C : Addr) (k : Nat) (x : Str)
    (ps : List Str) (dvs : List V) (sp : Sp) : Prop :=
  ∃ g fd ds, SMet K C x g ∧ Vals dvs ds ∧ Binds K fd ps ds ∧ FnOk P w K mg base CX0 k g fd ps sp
/-- C(e) where one more parameter has a default -/
def tMake1 (C : Addr) (sp : Sp) (Dv : V → Prop) (E : XK) (t : TA) : TE := fun σ H Q => t σ H fun vs H1 =>
  ∀ x dx d, H1 x = none → H1 dx = none → dx ≠ x → Dv d →
    sp (.ref x :: (vs ++ [d])) (upd (upd H1 dx (.own x)) x (.ins C dx [])) (fun v H2 => v = .non ∧ Q (.ref x) H2) E
end
section
variable {X : Cx} {k j : Nat} {ps : List Str} {sp : Sp} {x : Str} {p pos : Pos} {e : Expr} {es : List Expr} {t : TA} {C : Addr}
  {Dv : V → Prop}
theorem pe_kpr {ta : TE} (F : Kpr X.prog X.w X.K X.mg X.base C k x sp) (hC : Cls X.K C) (hr : Room j X.A) (he : PE X e ta)
    (hj : k + 1 ≤ j := by decide) (hx : Passes CX0 X.nox E0 := by exact pass0)
    (hb : attributeBase e x X.env (eval e X.env) = eval e X.env := by rfl) :
    PE X (.Attribute e x pos) (tProp C sp [] E0 ta) := by
  obtain ⟨p, g, fd, hp, hbd, F⟩ := F
  exact pe_prop he hC hp F (hr.mono hj) hbd .nil hx hb
theorem pe_kmk (F : Kmk X.prog X.w X.K X.mg X.base C k ps sp Dv) (hr : Room j X.A) (hg : Gl X x) (hm : X.mg x = some (.ref C))
    (ha : PA X (e :: es) t) (hj : k + 1 ≤ j := by decide) (hdb : (x == ("__debug__" : Str)) = false := by decide)
    (he : starEach (e :: es) X.env = (false, eval e X.env) :: starEach es X.env := by rfl)
    (hpl : (backTo pos (starEach es X.env)).any (·.1) = false := by rfl) (hx : Passes CX0 X E0 := by exact pass0) :
    PE X (.Call (.Name x p) (e :: es) [] pos) (tMake C sp [] E0 t) := by
  obtain ⟨f, fd, d, M, b, _, _, F⟩ := F
  exact pe_make M F (hr.mono hj) hg hm b .nil hx ha hdb he hpl
theorem pe_kmk1 (F : Kmk X.prog X.w X.K X.mg X.base C k ps sp Dv) (hr : Room j X.A) (hg : Gl X x) (hm : X.mg x = some (.ref C))
    (ha : PA X (e :: es) t) (mono : ∀ σ H (Q Q' : List V → Hp → Prop), (∀ vs H', Q vs H' → Q' vs H') → t σ H Q → t σ H Q')
    (hj : k + 1 ≤ j := by decide) (hdb : (x == ("__debug__" : Str)) = false := by decide)
    (he : starEach (e :: es) X.env = (false, eval e X.env) :: starEach es X.env := by rfl)
    (hpl : (backTo pos (starEach es X.env)).any (·.1) = false := by rfl) (hx : Passes CX0 X E0 := by exact pass0) :
    PE X (.Call (.Name x p) (e :: es) [] pos) (tMake1 C sp Dv E0 t) := by
  obtain ⟨f, fd, d, M, _, ⟨ds, hd, b⟩, dv, F⟩ := F
  refine (pe_make M F (hr.mono hj) hg hm b hd hx ha hdb he hpl).weaker fun σ H Q h => ?_
  exact mono σ H _ _ (fun vs H1 z x dx a1 a2 a3 => z x dx d a1 a2 a3 dv) h
theorem pe_ksm {o : Expr} {apos : Pos} {ta : TE} {dvs : List V} {pl : Sem Bool} (F : Ksm X.prog X.w X.K X.mg X.base C k x ps dvs sp) (hr : Room j X.A)
    (ho : PE X o ta) (ha : PA X (e :: es) t) (hj : k ≤ j := by decide)
    (he : starEach (e :: es) X.env = (false, eval e X.env) :: starEach es X.env := by rfl)
    (hpl : (backTo pos (starEach es X.env)).any (·.1) = false := by rfl)
    (hev : eval (.Call (.Attribute o x apos) (e :: es) [] pos) X.env = (do
      let ov ← eval o X.env
      standAt apos.atName
      let (f, first) ← holding [ov] (getMethod ov x pl)
      callWith pos f first (backTo pos (starEach (e :: es) X.env)) (backToKw pos (keywordEach [] X.env))) := by rfl)
    (hx : Passes CX0 X E0 := by exact pass0) :
    PE X (.Call (.Attribute o x apos) (e :: es) [] pos) (tSMeth C sp dvs E0 ta t) := by
  obtain ⟨g, fd, ds, S, hd, b, F⟩ := F
  exact pe_sm ho S F (hr.mono hj) b hd hx ha he hpl hev
theorem pe_ksm0 {o : Expr} {apos : Pos} {ta : TE} {dvs : List V} {pl : Sem Bool} (F : Ksm X.prog X.w X.K X.mg X.base C k x ps dvs sp) (hr : Room j X.A)
    (ho : PE X o ta) (hj : k ≤ j := by decide)
    (hev : eval (.Call (.Attribute o x apos) [] [] pos) X.env = (do
      let ov ← eval o X.env
      standAt apos.atName
      let (f, first) ← holding [ov] (getMethod ov x pl)
      callWith pos f first (backTo pos (starEach [] X.env)) (backToKw pos (keywordEach [] X.env))) := by rfl)
    (hx : Passes CX0 X E0 := by exact pass0) :
    PE X (.Call (.Attribute o x apos) [] [] pos) (tSMeth C sp dvs E0 ta tNil) := by
  obtain ⟨g, fd, ds, S, hd, b, F⟩ := F
  exact pe_sm0 ho S F (hr.mono hj) b hd hx hev
end
end L2

/-! own rules 15: operators and comparisons of a class of the program's own -/
namespace PySem.W
open Lean Elab Tactic Meta PySem PySem.Calls PyProof.Rows
section
variable {prog : Program} {w : World} {M : Model} {A : Around} {E : Value → Shared → Prop} {s : Shared} {K : Frag} {x y C L f : Addr} {h₀ : Heap} {m : Str → Option Value} {ox oy : Obj} {od od' : Option Obj} {nm T : String}
/-- both of one class -/
theorem q15_b1C {Q : Value → Shared → Prop} (X : K.In s.heap) (I : InstAt s.heap x ox C od) (J : InstAt s.heap y oy C od') (hc : selfFirst K C = true)
    (hs : findIn K (.ref C) (PySem.dunder nm) = some (some (.ref f))) (hf : isFn K (.ref f) = true)
    (h : wpAny (model prog w) A (call (.ref f) [.ref x, .ref y]) (CmpBack Q) E s) :
    wpAny (model prog w) A (binaryOp1 nm (.ref x) (.ref y)) (fun r s' => ∃ v, r = some v ∧ Q v s') E s := by
  obtain ⟨cd, rest, hcd, hm⟩ := ksp_first hc
  have one := ksp_try X I hs hf h
  obtain ⟨hh, g, d, tt, os⟩ := s
  have L1 : Looks (model prog w) hh (typeOf (.ref x)) (.ref C) := I.type
  have L2 : Looks (model prog w) hh (typeOf (.ref y)) (.ref C) := J.type
  have L3 : Looks (model prog w) hh (fillsNumberSlot (.ref C) nm) true := fills_K X hcd hm hs
  have hne : (Value.ref C == Value.ref C) = true := beq_self_eq_true _
  unfold binaryOp1
  refine wpAny_bind (L1.at (wpAny_bind (L2.at (wpAny_bind (L3.at ?_)))))
  simp only [hne, if_true]
  ksp_lk
  refine wpAny_mono one (fun r s' hr' => ?_) fun _ _ e => e
  obtain ⟨v, rfl, hq⟩ := hr'
  ksp_lk
  exact ⟨_, rfl, hq⟩
theorem q15_binC {op : Operator} {Q : Value → Shared → Prop} (X : K.In s.heap) (I : InstAt s.heap x ox C od) (J : InstAt s.heap y oy C od') (hc : selfFirst K C = true)
    (hs : findIn K (.ref C) (PySem.dunder op.info.2) = some (some (.ref f))) (hf : isFn K (.ref f) = true)
    (h : wpAny (model prog w) A (call (.ref f) [.ref x, .ref y]) (CmpBack Q) E s) : wpAny (model prog w) A (binaryOp op (.ref x) (.ref y)) Q E s := by
  rcases hi : op.info with ⟨sym, nm'⟩
  rw [hi] at hs
  dsimp only at hs
  simp only [binaryOp, hi]
  refine wpAny_holding (wpAny_bind (wpAny_mono (q15_b1C X I J hc hs hf h) (fun r s' hr' => ?_) fun _ _ e => e))
  obtain ⟨v, rfl, hq⟩ := hr'
  exact wpAny_pure hq
/-- a class that stands right below object -/
def plainIn (K : Frag) (C : Addr) : Bool := (clsIn K C).any fun cd => cd.mro == [.ref C, .type "object"]
theorem q15_noI {h : Heap} {add : Bool} (X : K.In h) (hb : plainIn K C = true) (h1 : findIn K (.ref C) (dunderI nm) = some none) (h2 : findIn K (.type "object") (dunderI nm) = some none) :
    Looks M h (fillsInplaceSlot (.ref C) nm add) false := by
  intro A Q E s k q
  obtain ⟨cd, hcd, hm⟩ := any_some hb
  have hm' := beq_iff_eq.mp hm
  have Lm : Looks M h (mroOf (.ref C)) cd.mro := (looks_clsIn X hcd).andThen (f := fun cd => pure cd.mro) .now
  have Lm' := Lm.keeps k
  obtain ⟨hh, g, d, tt, os⟩ := s
  have X' : K.In hh := X.keeps k
  have L1 : Looks M hh (typeLookup (.ref C) (dunderI nm)) none := looks_findIn X' h1
  have L2 : Looks M hh (typeLookup (.type "object") (dunderI nm)) none := looks_findIn X' h2
  unfold fillsInplaceSlot
  refine wpAny_bind (Lm'.at ?_)
  rw [hm', List.anyM_cons]
  refine wpAny_bind ?_
  repeat lk
  exact q
theorem q15_inC {op : Operator} {Q : Value → Shared → Prop} (X : K.In s.heap) (I : InstAt s.heap x ox C od) (J : InstAt s.heap y oy C od') (hc : selfFirst K C = true)
    (hb : plainIn K C = true) (h1 : findIn K (.ref C) (dunderI op.info.2) = some none) (h2 : findIn K (.type "object") (dunderI op.info.2) = some none)
    (hs : findIn K (.ref C) (PySem.dunder op.info.2) = some (some (.ref f))) (hf : isFn K (.ref f) = true)
    (h : wpAny (model prog w) A (call (.ref f) [.ref x, .ref y]) (CmpBack Q) E s) : wpAny (model prog w) A (inplaceOp op (.ref x) (.ref y)) Q E s := by
  have one := q15_b1C X I J hc hs hf h
  obtain ⟨hh, g, d, tt, os⟩ := s
  have L1 : Looks (model prog w) hh (typeOf (.ref x)) (.ref C) := I.type
  have L2 : Looks (model prog w) hh (fillsInplaceSlot (.ref C) op.info.2 (op == .Add)) false := q15_noI X hb h1 h2
  unfold inplaceOp
  refine wpAny_holding ?_
  refine wpAny_bind (L1.at ?_)
  refine wpAny_bind (L2.at ?_)
  simp only [Bool.false_eq_true, if_false]
  refine wpAny_bind (wpAny_mono one (fun r s' hr' => ?_) fun _ _ e => e)
  obtain ⟨v, rfl, hq⟩ := hr'
  exact wpAny_pure hq
/-- an int ahead, the class's own reflected word behind -/
theorem q15_binR {op : Operator} {i : Int} {t : Tok} {g : Addr} {idl : String} {ro : Option Value} {Q : Value → Shared → Prop} (X : K.In s.heap) (J : InstAt s.heap y oy C od') (hc : selfFirst K C = true)
    (hS : Slot "int" (PySem.dunder op.info.2) idl) (hq : isSeqSlot (some (.builtin idl)) = false)
    (hl : ∀ {Q' : Value → Shared → Prop}, Q' .notImplemented s → wpAny (model prog w) A (call (.builtin idl) [.int i t, .ref y]) Q' E s)
    (hR : typeLookup (.type "int") (dunderR op.info.2) = pure ro)
    (h2 : findIn K (.ref C) (PySem.dunder op.info.2) = some (some (.ref g))) (hsub : subIn K (.ref C) (.type "int") = some false)
    (hs : findIn K (.ref C) (dunderR op.info.2) = some (some (.ref f))) (hf : isFn K (.ref f) = true)
    (h : wpAny (model prog w) A (call (.ref f) [.ref y, .int i t]) (CmpBack Q) E s) : wpAny (model prog w) A (binaryOp op (.int i t) (.ref y)) Q E s := by
  obtain ⟨cd, rest, hcd, hm⟩ := ksp_first hc
  have one := ksp_try X J hs hf h
  rcases hi : op.info with ⟨sym, nm'⟩
  rw [hi] at hS hR h2 hs one
  dsimp only at hS hR h2 hs one
  have two : ∀ {Q' : Option Value → Shared → Prop}, Q' none s → wpAny (model prog w) A (tryMethod (.int i t) (PySem.dunder nm') (.ref y)) Q' E s := fun q =>
    wpAny_tryMethod_declines (T := "int") rfl hS (hl ⟨rfl, q⟩)
  have hF : fillsNumberSlot (.type "int") nm' = pure true := fillsNumberSlot_of hS.lookup hq hR
  have hne : (Value.type "int" == Value.ref C) = false := Bool.eq_false_iff.mpr fun q => by cases beq_iff_eq.mp q
  obtain ⟨hh, g', d, tt, os⟩ := s
  have L2 : Looks (model prog w) hh (typeOf (.ref y)) (.ref C) := J.type
  have L3 : Looks (model prog w) hh (fillsNumberSlot (.ref C) nm') true := fills_K X hcd hm h2
  have L5 : Looks (model prog w) hh (isSubtype (.ref C) (.type "int")) false := looks_subIn X hsub
  have hpy : numberSlotInPython (.type "int") nm' = pure false := rfl
  simp only [binaryOp, hi]
  refine wpAny_holding (wpAny_bind ?_)
  unfold binaryOp1
  refine wpAny_bind (wpAny_typeOf (T := "int") rfl (wpAny_bind (L2.at (wpAny_bind (wpAny_of_eq hF ?_)))))
  simp only [hne, Bool.false_eq_true, if_false]
  refine wpAny_bind (L3.at ?_)
  simp only [Bool.and_self, if_true]
  refine wpAny_bind (L5.at ?_)
  simp only [Bool.false_eq_true, if_false, pure_bind, Bool.not_false, Bool.and_self, if_true, hpy]
  refine wpAny_bind (two ?_)
  simp only [Bool.false_eq_true, if_false, pure_bind, Bool.not_false, Bool.and_self, if_true]
  refine wpAny_bind (wpAny_mono one (fun r s' hr' => ?_) fun _ _ e => e)
  obtain ⟨v, rfl, hq⟩ := hr'
  ksp_lk
  exact hq
theorem q15_iadd (i : Int) (t : Tok) (y C dx : Addr) :
    Meets (Builtin.«int.__add__» ⟨[.int i t, .ref y], []⟩) (fun _ R s => s.heap.get? y = some { cls := .ref C, dict := some dx, data := .plain } ∧ R (.ok (.ret Value.notImplemented)) s) :=
  .of_wp fun prog w A R s h => by
    obtain ⟨hp, g, d, tk, os⟩ := s; obtain ⟨hl, h⟩ := h; wp_walk; exact ⟨_, rfl, h⟩
theorem q15_isub (i : Int) (t : Tok) (y C dx : Addr) :
    Meets (Builtin.«int.__sub__» ⟨[.int i t, .ref y], []⟩) (fun _ R s => s.heap.get? y = some { cls := .ref C, dict := some dx, data := .plain } ∧ R (.ok (.ret Value.notImplemented)) s) :=
  .of_wp fun prog w A R s h => by
    obtain ⟨hp, g, d, tk, os⟩ := s; obtain ⟨hl, h⟩ := h; wp_walk; exact ⟨_, rfl, h⟩
open Builtin in
/-- != by the class's own ==, the word of object -/
theorem q15_objNe (hu : A.units < cLine) (X : K.In s.heap) (I : InstAt s.heap x ox C od) (hs : findIn K (.ref C) "__eq__" = some (some (.ref f))) (hf : isFn K (.ref f) = true) {Q : Fin → Shared → Prop}
    (hcall : wpAny (model prog w) A (call (.ref f) [.ref x, .ref y]) (fun v s' => ∃ b, v = .bool b ∧ Q (.done (.ret (.bool (!b)))) s') E s) :
    wpAny (model prog w) A (Builtin.«object.__ne__» ⟨[.ref x, .ref y], []⟩) Q E s := by
  obtain ⟨h, g, d, t, os⟩ := s
  unfold Builtin.«object.__ne__»
  repeat (first
    | with_reducible refine wpAny_cRoomFor hu ?_
    | (refine wpAny_bind (m := callSpecialIfBound? (.ref x) (Str.ofString "__eq__") [.ref y])
        (ifBound_K X I hs hf (wpAny_mono hcall (fun r s' hr => by
          obtain ⟨b, rfl, hq⟩ := hr
          repeat (first | exact hq | exact wpAny_pure hq | exact wpAny_truthy_bool hq | (refine wpAny_bind (m := truthy (.bool _)) (wpAny_truthy_bool ?_)) | wp_step)) fun _ _ e => e)))
    | wp_step)
theorem q15_neB {args : List Value} {Q : Option Value → Shared → Prop} (X : K.In s.heap) (I : InstAt s.heap x ox C od) (hn : findIn K (.ref C) "__ne__" = some (some (.builtin "object.__ne__")))
    (h : wpAny M A (call (.builtin "object.__ne__") (.ref x :: args)) (fun v => Q (some v)) E s) : wpAny M A (callSpecialIfBound? (.ref x) "__ne__" args) Q E s := by
  simp only [callSpecialIfBound?, bindSpecialIfBound?]
  refine wpAny_holding (wpAny_bind (wpAny_bind (wpAny_bind (I.type.here ((looks_findIn X hn).here ?_)))))
  simp only [F.cmp_object.ne.bind]
  refine wpAny_bind (wpAny_askSetting (wpAny_ite ?_))
  have fin : wpAny M A (call (.builtin "object.__ne__") ([.ref x] ++ args) >>= fun v => pure (some v)) Q E s := wpAny_bind (wpAny_mono h (fun v s' h' => wpAny_pure h') fun _ _ h' => h')
  split
  · exact wpAny_bind (wpAny_pure (wpAny_pure (by exact fin)))
  · exact wpAny_tryCatch (wpAny_bind (wpAny_pure (wpAny_pure (by exact fin))))
theorem q15_ne {Q : Value → Shared → Prop} (hu : A.units + 1 < cLine) (X : K.In s.heap) (I : InstAt s.heap x ox C od) (J : InstAt s.heap y oy C od')
    (hn : findIn K (.ref C) "__ne__" = some (some (.builtin "object.__ne__"))) (hs : findIn K (.ref C) "__eq__" = some (some (.ref f))) (hf : isFn K (.ref f) = true) (hO : subIn K (.ref C) (.type "object") = some true)
    (h : wpAny (model prog w) A.in1 (call (.ref f) [.ref x, .ref y]) (fun v s' => ∃ b, v = .bool b ∧ Q (.bool (!b)) s') E s) :
    wpAny (model prog w) A (compareOp .NotEq (.ref x) (.ref y)) Q E s := by
  have one : wpAny (model prog w) A (tryCompare (.ref x) "__ne__" (.ref y)) (fun r s' => ∃ v, r = some v ∧ Q v s') E s := by
    unfold tryCompare
    refine wpAny_bind (q15_neB X I hn (wpAny_call (codeAny_call_builtin F.cmp_object.ne.plain F.cmpEntry_ne
      (@check_slot (model prog w) _ _ s "object.__ne__" "object" "__ne__" (.ref x) [.ref y] [] _ F.cmpKind_ne F.cmpSplit_ne (I.type.andThen (looks_subIn X hO)) (F.cmpArgs_ne _ _)
        (q15_objNe (A := A.in1) hu X I hs hf (wpAny_mono h (fun v s' hv => ?_) fun _ _ e => e))))))
    obtain ⟨b, rfl, hq⟩ := hv
    first | exact ⟨b, rfl, wpAny_pure ⟨_, rfl, hq⟩⟩ | exact ⟨b, rfl, wpAny_pure (wpAny_pure ⟨_, rfl, hq⟩)⟩
  show wpAny _ _ (richCompare .NotEq (.ref x) (.ref y)) _ _ _
  unfold richCompare
  simp only [oneThing_ref]
  refine wpAny_holding ?_
  refine wpAny_bind (wpAny_cRoomFor (Nat.lt_of_succ_lt hu) ?_)
  rw [cmpInfo_NotEq]
  dsimp only
  refine wpAny_bind (I.type.here (wpAny_bind (J.type.here ?_)))
  rw [show (Value.ref C != Value.ref C) = false from by simp]
  simp only [Bool.false_eq_true, if_false]
  refine wpAny_bind (wpAny_pure ?_)
  simp only [Bool.false_eq_true, if_false]
  refine wpAny_bind (wpAny_mono one (fun r s' z => ?_) fun _ _ e => e)
  obtain ⟨v, rfl, hq⟩ := z
  exact wpAny_pure hq
end
end PySem.W

/-! own rules 16: x + y, -x, x < y, x == y, x != y, x += y where x is an object of the program's own class -/
namespace L2
open PySem PySem.Spec PyProof.Rows
section
variable {X : Cx} {pins : List (Addr × Obj)} {σ : St} {H : Hp} {s : Shared}
theorem RelV.back {v : V} {u : Value} (r : RelV v u) : u ≠ .notImplemented := by
  intro z
  subst z
  cases v with
  | non => exact nomatch (show Value.notImplemented = Value.none from r)
  | bl b => exact nomatch (show Value.notImplemented = Value.bool b from r)
  | int i => obtain ⟨t, e⟩ := r; cases e
  | str i => obtain ⟨t, e⟩ := r; cases e
  | byt i => obtain ⟨t, e⟩ := r; cases e
  | flt i => obtain ⟨t, e⟩ := r; cases e
  | ref a => exact nomatch (show Value.notImplemented = Value.ref a from r)
  | ty n => exact nomatch (show Value.notImplemented = Value.type n from r)
theorem ep_back {Q : VK} {u : Value} {s' : Shared} (h : EP X pins σ Q u s') : PySem.W.CmpBack (EP X pins σ Q) u s' := by
  obtain ⟨v, H', I', r, q⟩ := id h
  have nb := r.back
  cases u <;> first | exact absurd rfl nb | exact h
theorem ty_looks {M : Model} {x : V} {u t : Value} (I : Inv X pins σ H s) (rx : RelV x u) (ty : TyOf X.K H x t) : PySem.W.Looks M s.heap (typeOf u) t := by
  cases ty with
  | non => cases (show u = Value.none from rx); exact .of_pure rfl
  | bl y => cases (show u = Value.bool y from rx); exact .of_pure rfl
  | int i => obtain ⟨t, q⟩ := (show ∃ t, u = Value.int i t from rx); cases q; exact .of_pure rfl
  | str y => obtain ⟨t, q⟩ := (show ∃ t, u = Value.str y t from rx); cases q; exact .of_pure rfl
  | flt y => obtain ⟨t, q⟩ := (show ∃ t, u = Value.float y t from rx); cases q; exact .of_pure rfl
  | @lst a xs ea =>
    cases (show u = Value.ref a from rx)
    obtain ⟨_, _, n, _, h1⟩ := (show ObjOk X.prog X.w H s.heap a (.lst xs) from I.hok a _ ea)
    exact (PySem.W.Looks.ld h1).andThen .now
  | @frz a ob xs ea =>
    cases (show u = Value.ref a from rx)
    obtain ⟨_, _, _, n, _, h1⟩ := (show ObjOk X.prog X.w H s.heap a (.frz ob (.lst xs)) from I.hok a _ ea)
    exact (PySem.W.Looks.ld h1).andThen .now
  | @tup a xs ea =>
    cases (show u = Value.ref a from rx)
    obtain ⟨_, _, _, p⟩ := (show ObjOk X.prog X.w H s.heap a (.tup xs) from I.hok a _ ea)
    obtain ⟨o, h1, h2, _⟩ := p
    exact h2 ▸ (PySem.W.Looks.ld h1).andThen .now
  | @dK a kvs ea =>
    cases (show u = Value.ref a from rx)
    obtain ⟨_, _, vs, _, p⟩ := (show ObjOk X.prog X.w H s.heap a (.dK kvs) from I.hok a _ ea)
    obtain ⟨o, es, ep, h1, h2, _⟩ := p
    exact h2.1 ▸ (PySem.W.Looks.ld h1).andThen .now
  | @dT a kvs ea =>
    cases (show u = Value.ref a from rx)
    obtain ⟨_, _, xs, _, o, es, ep, h1, h2, _⟩ := (show ObjOk X.prog X.w H s.heap a (.dT kvs) from I.hok a _ ea)
    exact h2.1 ▸ (PySem.W.Looks.ld h1).andThen .now
  | @ins a C dx fs ea cl ha hn htk hm =>
    cases (show u = Value.ref a from rx)
    obtain ⟨mA, O, _⟩ := ins_get I.hok ea
    obtain ⟨od, J, _⟩ := O.look
    exact J.type
theorem ins_at {C a dx : Addr} {fs : List (Str × V)} (I : Inv X pins σ H s) (e : H a = some (.ins C dx fs)) : ∃ od, PySem.W.InstAt s.heap a (PySem.W.instObj C dx) C (some od) := by
  obtain ⟨mA, O, _⟩ := ins_get I.hok e
  obtain ⟨od, J, _⟩ := O.look
  exact ⟨od, J⟩
end
/-- what a method of a class keeps that Python calls by itself -/
def Kop (P : Program) (w : World) (K : PySem.W.Frag) (mg : Str → Option Value) (base : Heap) (C : Addr) (k : Nat) (nm : Str) (ps : List Str) (sp : Sp) : Prop :=
  ∃ f fd, PySem.W.findIn K (.ref C) nm = some (some (.ref f)) ∧ PySem.W.isFn K (.ref f) = true ∧ Binds K fd ps [] ∧ FnOk P w K mg base CX0 k f fd ps sp
/-- a class that stands right below object -/
structure Plain (K : PySem.W.Frag) (C : Addr) : Prop where
  sf : PySem.W.selfFirst K C = true
  pl : PySem.W.plainIn K C = true
  ob : PySem.W.subIn K (.ref C) (.type "object") = some true
  i1 : PySem.W.subIn K (.type "int") (.ref C) = some false
  i2 : PySem.W.subIn K (.ref C) (.type "int") = some false
/-- one of the class, then an int or one of the class -/
def rOwn (C : Addr) (sp : Sp) : R2 := fun x y H Q => ∃ a dx fs, x = .ref a ∧ H a = some (.ins C dx fs) ∧
  ((∃ i, y = .int i) ∨ ∃ b dy gs, y = .ref b ∧ H b = some (.ins C dy gs)) ∧ sp [x, y] H Q E0
/-- an int, then one of the class: the method is asked the other way round -/
def rOwnR (C : Addr) (sp : Sp) : R2 := fun x y H Q => ∃ b dy gs i, y = .ref b ∧ H b = some (.ins C dy gs) ∧ x = .int i ∧ sp [y, x] H Q E0
/-- one of the class, then any value whose kind is known -/
def rOwnC (K : PySem.W.Frag) (C : Addr) (sp : Sp) : R2 := fun x y H Q => ∃ a dx fs t, x = .ref a ∧ H a = some (.ins C dx fs) ∧ TyOf K H y t ∧ PySem.W.notFirst K C t = true ∧ sp [x, y] H Q E0
def rNeg (C : Addr) (sp : Sp) : V → Hp → VK → Prop := fun x H Q => ∃ a dx fs, x = .ref a ∧ H a = some (.ins C dx fs) ∧ sp [x] H Q E0
/-- - of an int or one of the class -/
def rNegB (C : Addr) (sp : Sp) : V → Hp → VK → Prop := fun x H Q => (∃ i, x = .int i ∧ Q (.int (-i)) H) ∨ rNeg C sp x H Q
/-- != of two of the class, by its own == -/
def rNeO (C : Addr) (sp : Sp) : R2 := fun x y H Q => ∃ a dx fs b dy gs, x = .ref a ∧ H a = some (.ins C dx fs) ∧ y = .ref b ∧ H b = some (.ins C dy gs) ∧
  sp [x, y] H (fun v H' => ∃ k, v = .bl k ∧ Q (.bl (!k)) H') E0
section
variable {X : Cx} {k : Nat} {C : Addr} {sp : Sp} {nm : Str}
theorem run_op {pins : List (Addr × Obj)} {σ : St} {H : Hp} {s : Shared} {Q : VK} {us : List Value} {vs : List V} {f : Addr} {fd : FuncData} {ps : List Str}
    (F : FnOk X.prog X.w X.K X.mg X.base CX0 k f fd ps sp) (hr : Room k X.A) (hb : Binds X.K fd ps []) (I : Inv X pins σ H s) (r : Vals vs us) (h : sp vs H Q E0) (hx : Passes CX0 X E0) :
    wpAny (model X.prog X.w) X.A (call (.ref f) us) (PySem.W.CmpBack (EP X pins σ Q)) X.xe s :=
  wpAny_mono (run_fn (ds := []) (dvs := []) F hr hb .nil hx I r (by simpa using h)) (fun u s' z => ep_back z) fun _ _ z => z
theorem op_own {op : Operator} {fo ro rc : Option Value} {nr : Str} (P : Plain X.K C) (G : Kop X.prog X.w X.K X.mg X.base C k nm ["self", "other"] sp) (hr : Room k X.A)
    (hR' : PySem.W.findIn X.K (.ref C) nr = some rc) (hp : rc = none ∨ ∃ g : Addr, rc = some (.ref g)) (e1 : PySem.dunder op.info.2 = nm := by decide +kernel) (e2 : dunderR op.info.2 = nr := by decide +kernel)
    (h1 : PySem.W.findIn X.K (.type "int") (PySem.dunder op.info.2) = some fo) (h2 : PySem.W.findIn X.K (.type "int") (dunderR op.info.2) = some ro)
    (hx : Passes CX0 X E0 := by exact pass0) : OpR X (binaryOp op) (rOwn C sp) := by
  subst e1 e2
  have hR := hR'
  obtain ⟨f, fd, hs, hf, hb, F⟩ := G
  intro pins s σ H x y v u Q I rx ry h
  obtain ⟨a, dx, fs, rfl, ha, hy, q⟩ := h
  cases (show v = Value.ref a from rx)
  obtain ⟨od, J⟩ := ins_at I ha
  have run := run_op F hr hb I (us := [.ref a, u]) (vs := [.ref a, y]) (.cons rfl (.cons ry .nil)) q hx
  rcases hy with ⟨i, rfl⟩ | ⟨b, dy, gs, rfl, hb'⟩
  · obtain ⟨t, e⟩ := (show ∃ t, u = Value.int i t from ry)
    cases e
    obtain ⟨m, hF⟩ := I.fr
    exact PySem.W.ksp_binT hF I.ok.mod.kin J rfl P.sf hs hf hR hp h1 h2 P.i1 run
  · cases (show u = Value.ref b from ry)
    obtain ⟨od', J'⟩ := ins_at I hb'
    exact PySem.W.q15_binC I.kIn J J' P.sf hs hf run
theorem op_ownR {op : Operator} {idl : String} {ro : Option Value} {g : Addr} {nr : Str} (P : Plain X.K C) (G : Kop X.prog X.w X.K X.mg X.base C k nr ["self", "other"] sp) (hr : Room k X.A)
    (h2' : PySem.W.findIn X.K (.ref C) nm = some (some (.ref g))) (e1 : PySem.dunder op.info.2 = nm := by decide +kernel) (e2 : dunderR op.info.2 = nr := by decide +kernel)
    (hS : Slot "int" (PySem.dunder op.info.2) idl) (hq : PySem.isSeqSlot (some (.builtin idl)) = false) (hR : typeLookup (.type "int") (dunderR op.info.2) = pure ro)
    (hl : ∀ (A : Around) (E : Value → Shared → Prop) (s : Shared) (i : Int) (t : Tok) (y dx : Addr) (Q' : Value → Shared → Prop), s.heap.get? y = some (PySem.W.instObj C dx) → Q' .notImplemented s →
      wpAny (model X.prog X.w) A (call (.builtin idl) [.int i t, .ref y]) Q' E s)
    (hx : Passes CX0 X E0 := by exact pass0) : OpR X (binaryOp op) (rOwnR C sp) := by
  subst e1 e2
  have h2 := h2'
  obtain ⟨f, fd, hs, hf, hb, F⟩ := G
  intro pins s σ H x y v u Q I rx ry h
  obtain ⟨b, dy, gs, i, rfl, hb', rfl, q⟩ := h
  cases (show u = Value.ref b from ry)
  obtain ⟨od', J'⟩ := ins_at I hb'
  have run := run_op F hr hb I (us := [.ref b, v]) (vs := [.ref b, .int i]) (.cons rfl (.cons rx .nil)) q hx
  obtain ⟨t, e⟩ := (show ∃ t, v = Value.int i t from rx)
  cases e
  exact PySem.W.q15_binR I.kIn J' P.sf hS hq (fun {Q'} z => hl _ _ _ _ _ _ _ _ J'.at_ z) hR h2 P.i2 hs hf run
theorem ip_own {op : Operator} {ni : Str} (P : Plain X.K C) (G : Kop X.prog X.w X.K X.mg X.base C k nm ["self", "other"] sp) (hr : Room k X.A)
    (h1' : PySem.W.findIn X.K (.ref C) ni = some none) (e1 : PySem.dunder op.info.2 = nm := by decide +kernel) (e2 : dunderI op.info.2 = ni := by decide +kernel) (h2 : PySem.W.findIn X.K (.type "object") (dunderI op.info.2) = some none)
    (hx : Passes CX0 X E0 := by exact pass0) : OpR X (inplaceOp op) (fun x y H Q => ∃ b dy gs, y = .ref b ∧ H b = some (.ins C dy gs) ∧ rOwn C sp x y H Q) := by
  subst e1 e2
  have h1 := h1'
  obtain ⟨f, fd, hs, hf, hb, F⟩ := G
  intro pins s σ H x y v u Q I rx ry h
  obtain ⟨b, dy, gs, rfl, hb', a, dx, fs, rfl, ha, _, q⟩ := h
  cases (show v = Value.ref a from rx)
  cases (show u = Value.ref b from ry)
  obtain ⟨od, J⟩ := ins_at I ha
  obtain ⟨od', J'⟩ := ins_at I hb'
  have run := run_op F hr hb I (us := [.ref a, .ref b]) (vs := [.ref a, .ref b]) (.cons rfl (.cons rfl .nil)) q hx
  exact PySem.W.q15_inC I.kIn J J' P.sf P.pl h1 h2 hs hf run
theorem un_negO (G : Kop X.prog X.w X.K X.mg X.base C k "__neg__" ["self"] sp) (hr : Room k X.A) (hx : Passes CX0 X E0 := by exact pass0) : UnR X (unaryOp .USub) (rNegB C sp) := by
  obtain ⟨f, fd, hs, hf, hb, F⟩ := G
  intro pins s σ H x v Q I rx h
  rcases h with h | ⟨a, dx, fs, rfl, ha, q⟩
  · exact un_neg pins s σ H x v Q I rx h
  · cases (show v = Value.ref a from rx)
    obtain ⟨od, J⟩ := ins_at I ha
    obtain ⟨m, hF⟩ := I.fr
    exact PySem.W.ksp_neg hF I.ok.mod.kin J hs hf (run_fn (us := [.ref a]) (vs := [.ref a]) (ds := []) (dvs := []) F hr hb .nil hx I (.cons rfl .nil) (by simpa using q))
theorem op_cmp {op : CmpOp} (G : Kop X.prog X.w X.K X.mg X.base C k (cmpInfo op).2.1 ["self", "other"] sp) (hr : Room k X.A)
    (ho : ∀ u v, compareOp op u v = richCompare op u v := by intros; rfl) (hx : Passes CX0 X E0 := by exact pass0) : OpR X (compareOp op) (rOwnC X.K C sp) := by
  obtain ⟨f, fd, hs, hf, hb, F⟩ := G
  intro pins s σ H x y v u Q I rx ry h
  obtain ⟨a, dx, fs, t, rfl, ha, ty, nf, q⟩ := h
  cases (show v = Value.ref a from rx)
  obtain ⟨od, J⟩ := ins_at I ha
  obtain ⟨m, hF⟩ := I.fr
  rw [ho]
  exact PySem.W.cmp_K hr.units0 hF I.ok.mod.kin J (ty_looks I ry ty) nf hs hf (run_op F hr hb I (us := [.ref a, u]) (vs := [.ref a, y]) (.cons rfl (.cons ry .nil)) q hx)
theorem op_neO (P : Plain X.K C) (G : Kop X.prog X.w X.K X.mg X.base C k "__eq__" ["self", "other"] sp) (hr : Room (k + 1) X.A)
    (hn : PySem.W.findIn X.K (.ref C) "__ne__" = some (some (.builtin "object.__ne__"))) (hx : Passes CX0 X E0 := by exact pass0) : OpR X (compareOp .NotEq) (rNeO C sp) := by
  obtain ⟨f, fd, hs, hf, hb, F⟩ := G
  intro pins s σ H x y v u Q I rx ry h
  obtain ⟨a, dx, fs, b, dy, gs, rfl, ha, rfl, hb', q⟩ := h
  cases (show v = Value.ref a from rx)
  cases (show u = Value.ref b from ry)
  obtain ⟨od, J⟩ := ins_at I ha
  obtain ⟨od', J'⟩ := ins_at I hb'
  refine PySem.W.q15_ne (by have := hr.un; omega) I.kIn J J' hn hs hf P.ob ?_
  have e0 : Env0 X.prog X.w X.K X.mg X.base X.A.in1 X.stack s H := by
    have e := I.env0
    exact ⟨e.frames, e.mod, e.bs, e.bsz, e.funs, e.frf, e.hok, e.bare⟩
  have hl := F.len _ _ _ _ q
  have r2 : Vals [V.ref a, V.ref b] [Value.ref a, Value.ref b] := .cons rfl (.cons rfl .nil)
  refine wpAny_call (codeAny_mono (F.run X.A.in1 X.stack s H ⟨[.ref a, .ref b], []⟩ [.ref a, .ref b] [.ref a, .ref b] _ E0 hr.in1 e0 (by
    have := hb s [.ref a, .ref b] I.kIn (by simpa using hl)
    simpa using this) r2 q) fun r s' hq => ?_)
  cases r with
  | error e => exact hx pins σ H s e s' I hq
  | ok fl =>
    cases fl with
    | ret w =>
      obtain ⟨z, H', I', rz, k', ez, ex⟩ := I.after hq
      subst ez
      cases rz
      exact ⟨k', rfl, .bl (!k'), H', I', rfl, ex⟩
    | next => exact False.elim hq
    | brk => exact False.elim hq
    | cont => exact False.elim hq
end
section
variable {K : PySem.W.Frag} {x qual : Str} {params : Arguments} {body : List Stmt} {scope : Scope} {dvs : List V} {f : Addr} {fd : FuncData} {ps : List Str}
/-- f(e, .., k = v, ..) of a def with defaults, no keyword-only parameters -/
theorem FunD.kb1 (F : FunD K x qual params body scope dvs [] f fd) (n : Nat) (ks : List Str) (g : {α : Type} → List α → List α → List α → List α) (hd : dvs ≠ [])
    (hrel : ∀ {vs ds zs : List V} {us its ws : List Value}, Vals vs us → Vals ds its → Vals zs ws → Vals (g vs ds zs) (g us its ws))
    (h : ∀ (T : Addr) (kV doc pm : Value) (an : Option Addr) (cdv ct : Value) (us its ws : List Value), us.length = n → its.length = dvs.length → ws.length = ks.length →
      ∃ k, bindArgs (PySem.W.fnOf x qual params body scope (.ref T) kV doc pm an cdv ct) ⟨us, ks.zip ws⟩ = seqItems? (.ref T) >>= k ∧ k (some its.toArray) = pure (ps.zip (g us its ws))) :
    ∃ its : List Value, KBn K fd ps n ks (fun us ws => g us its ws) (fun vs zs => g vs dvs zs) := by
  obtain ⟨oc, od, dV, kV, doc, pm, an, cdv, ct, osl, rfl, lk, hcd, hD, hK⟩ := F.ex
  rcases hD with ⟨e, _⟩ | ⟨_, T, o, its, m, rfl, lT, oT, rT⟩
  · exact absurd e hd
  · refine ⟨its, ⟨fun s us ws X l1 l2 => ?_, fun r1 r2 => hrel r1 rT r2⟩⟩
    obtain ⟨k, e1, e2⟩ := h T kV doc pm an cdv ct us its ws l1 rT.length.symm l2
    refine BindsTo.of_looks fun M => ?_
    rw [e1]
    exact looks_items X lT oT (.of_pure e2)
end
/-- what making an object by keywords keeps -/
def KmkK (P : Program) (w : World) (K : PySem.W.Frag) (mg : Str → Option Value) (base : Heap) (C : Addr) (k : Nat) (ps ks : List Str) (gV : List V → List V → List V) (sp : Sp) : Prop :=
  ∃ f fd g, Mk K C f ∧ KBn K fd ps 1 ks g gV ∧ FnOk P w K mg base CX0 k f fd ps sp
section
variable {X : Cx} {k j : Nat} {ps ks : List Str} {sp : Sp} {x : Str} {p pos : Pos} {kws : List Keyword} {tk : TA} {C : Addr} {gV : List V → List V → List V}
theorem pe_kmkK (F : KmkK X.prog X.w X.K X.mg X.base C k ps ks gV sp) (hr : Room j X.A) (hg : Gl X x) (hm : X.mg x = some (.ref C)) (hkw : PK X kws tk) (hj : k + 1 ≤ j := by decide)
    (hall : (backToKw pos (keywordEach kws X.env)).all (·.1.isSome) = true := by rfl) (hks : (backToKw pos (keywordEach kws X.env)).filterMap (·.1) = ks := by rfl) (hdb : (x == ("__debug__" : Str)) = false := by decide)
    (hpl : ((backTo pos (starEach [] X.env)).any (·.1) || (backToKw pos (keywordEach kws X.env)).any (·.1.isNone)) = false := by rfl) (hx : Passes CX0 X E0 := by exact pass0) :
    PE X (.Call (.Name x p) [] kws pos) (tMakeK C 0 ks.length sp gV E0 tNil tk) := by
  obtain ⟨f, fd, g, M, b, F⟩ := F
  exact pe_makeK0 M F (hr.mono hj) hg hm b hx hkw hall hks hdb hpl
end
end L2

/-! own rules 17: comprehensions of pure elements over texts and locked dicts; text constants of modules -/
namespace L2
open PySem PySem.Spec PyProof.Rows
/-- a module's text -/
theorem pe_cstS {X : Cx} {x : Str} {z : Str} {pos : Pos} (hg : Gl X x) (h : ∃ t, X.mg x = some (.str z t))
    (hd : (x == ("__debug__" : Str)) = false := by decide) : PE X (.Name x pos) (tC (.str z)) := by
  obtain ⟨t, e⟩ := h
  exact pe_glob hg e ⟨t, rfl⟩ hd
section
variable {r : Nat → V → Option V} {g : TG} {tt : TT} {te : TE} {vs : List Nat} {σ : St} {H : Hp} {Q : VK}
theorem lc_pureW {J : It} {n : Nat} {G : Hp → Prop} {Y : Nat → Hp → V → Hp → Prop} (w : Walk J n G Y) {xs : List V} {D : Addr} {Qd : Hp → Prop} (hn : xs.length = n)
    (hY : ∀ i H x H', Y i H x H' → H' = H ∧ xs[i]? = some x) (hG : ∀ H', Same H H' → G H') (hz : xs.length ≤ sizeLine) (hD : H D = none)
    (ht : ∀ i x H', xs[i]? = some x → Same H H' → Pure1 r g tt te vs σ i x H') (hQ : Qd (upd H D (.lst (fm r 0 xs)))) :
    ∃ W : Nat → Nat → Hp → Prop, (∃ m, W 0 m (upd H D (.lst []))) ∧ ∀ i m H, W i m H →
      (J.stop i H ∧ Qd H) ∨ (J.go i H ∧ ∃ Nx : Hp → Prop, (∀ H', Nx H' → ∃ m', m' < m ∧ W (i + 1) m' H') ∧ ∀ x H', J.yld i H x H' → g x (wipe σ vs) H' fun σ2 H2 => wipe σ2 vs = wipe σ vs ∧ tt σ2 H2 fun b H3 =>
        if b = true then te σ2 H3 fun y H4 => ∃ acc, H4 D = some (.lst acc) ∧ acc.length < sizeLine ∧ Nx (upd H4 D (.lst (acc ++ [y]))) else Nx H3) := by
  refine lc_it w (fun j H' => H' = upd H D (.lst (fm r 0 (xs.take j)))) rfl (fun i H' _ e => hG _ (by rw [e]; exact Same.new hD)) (fun i x H1 H2 _ e y => ?_) fun H' e => ?_
  · obtain ⟨e2, hx⟩ := hY _ _ _ _ y
    subst e2
    exact pure_turn hx hz (fun _ _ => Iff.rfl) e (ht i x H2 hx (by rw [e]; exact Same.new hD))
  · rw [e, List.take_of_length_le (by omega)]
    exact hQ
/-- the signs of a text -/
def signs (z : Str) : List V := z.cps.toList.map fun c => V.str ⟨#[c]⟩
theorem signs_len (z : Str) : (signs z).length = z.cps.size := by
  unfold signs
  rw [List.length_map, Array.length_toList]
theorem signs_at {z : Str} {i : Nat} {x : V} : (∃ c, z.cps[i]? = some c ∧ x = .str ⟨#[c]⟩) ↔ (signs z)[i]? = some x := by
  unfold signs
  rw [List.getElem?_map, Array.getElem?_toList]
  cases z.cps[i]? with
  | none => simp
  | some c => simp [eq_comm]
/-- [.. for x in a text] -/
theorem tlc_str {z : Str} {tl : TE} (hz : z.cps.size ≤ sizeLine) (htl : ∀ R : VK, R (.str z) H → tl σ H R)
    (ht : ∀ i x H', (signs z)[i]? = some x → Same H H' → Pure1 r g tt te vs σ i x H')
    (hQ : ∀ D, H D = none → Q (.ref D) (upd H D (.lst (fm r 0 (signs z))))) : tLc (iStr tl) g tt te vs σ H Q := by
  refine htl _ ⟨z, rfl, fun D hD => ?_⟩
  exact lc_pureW (walk_str (z := z)) (signs_len z) (fun i H x H' ⟨e, y⟩ => ⟨e, signs_at.mp y⟩) (fun _ _ => True.intro) (by rw [signs_len]; exact hz) hD ht (hQ D hD)
/-- [.. for x in a dict], the dict locked -/
theorem tlc_keys {d : Addr} {o : Obj} {kvs : List (Key × V)} {td : TE} (hd : H d = some (.frz o (.dK kvs))) (hz : kvs.length ≤ sizeLine) (htl : ∀ R : VK, R (.ref d) H → td σ H R)
    (ht : ∀ i x H', (kvs.map fun kv => kV kv.1)[i]? = some x → Same H H' → Pure1 r g tt te vs σ i x H')
    (hQ : ∀ D, H D = none → Q (.ref D) (upd H D (.lst (fm r 0 (kvs.map fun kv => kV kv.1))))) : tLc (iKeys td) g tt te vs σ H Q := by
  refine htl _ ⟨d, o, rfl, .inl ⟨kvs, hd, fun D hD => ?_⟩⟩
  exact lc_pureW (walk_keys (d := d) (o := o) (kvs := kvs)) (by rw [List.length_map]) (fun i H x H' ⟨e, k, v, y, ex⟩ => ⟨e, by rw [List.getElem?_map, y, ex]; rfl⟩) (fun H' s => s _ _ hd) (by rw [List.length_map]; exact hz) hD ht (hQ D hD)
end
end L2

/-! own rules 18: {k: v for ..} whose keys are tuples; loops of such comprehensions by what is walked -/
namespace L2
open PySem PySem.Spec PyProof.Rows
/-- one entry of such a comprehension is put in -/
theorem put_tupKey {X : Cx} {pn : List (Addr × Obj)} {σ : St} {H : Hp} {s : Shared} {E : Value → Shared → Prop}
    {D b : Addr} {kvs : List (List Key × V)} {k : List Key} {v : V} {r : Value} {Q : Unit → Shared → Prop}
    (hu : X.A.units + 2 < cLine) (J : Inv X pn σ H s) (eD : H D = some (.dT kvs)) (small : kvs.length < sizeLine)
    (eb : H b = some (.tup (k.map kV))) (rv : RelV v r)
    (h : ∀ s', Inv X pn σ (upd H D (.dT (putK kvs k v))) s' → Q () s') :
    wpAny (model X.prog X.w) X.A (dictSet D (.ref b) r) Q E s := by
  obtain ⟨zl, notMods, xs, kt, dd⟩ := dt_of J.hok eD
  have hx : xs.length ≤ sizeLine := (Paired.length kt) ▸ zl
  have hp : (putK kvs k v).length ≤ sizeLine := Nat.le_trans (length_putK kvs k v) small
  refine wpAny_dictSet_heap (hsz := hx) (show X.A.units < cLine from Nat.lt_of_le_of_lt (Nat.le_add_right _ _) hu) (key_of J.hok eb) dd fun h' new only => h _ ?_
  obtain ⟨o, ents, ep, at_, c2, c3, c4, _, c5⟩ := new
  refine d_write J (by rw [eD]; trivial) only ⟨o, at_⟩ ⟨hp, notMods, _, (kt.put k eb rv).keeps fun c ys ec => ?_, o, ents, ep, at_, c2, c3, c4, c5⟩
  exact upd_oth (fun z => by rw [z, eD] at ec; cases ec) ec
section
variable {X : Cx}
/-- {k: v for target in iter if ..}, keys tuples of ints and texts: D the new dict -/
def tDcT (wi : TI) (g : TG) (tt : TT) (tk tv : TE) (vs : List Nat) : TE := fun σ H Q =>
  wi σ H fun J H1 => ∀ D, H1 D = none → ∃ W : Nat → Nat → Hp → Prop, (∃ m, W 0 m (upd H1 D (.dT []))) ∧
    ∀ i m H, W i m H → (J.stop i H ∧ Q (.ref D) H) ∨
      (J.go i H ∧ ∃ Nx : Hp → Prop, (∀ H', Nx H' → ∃ m', m' < m ∧ W (i + 1) m' H') ∧
        ∀ x H', J.yld i H x H' → g x (wipe σ vs) H' fun σ2 H2 => wipe σ2 vs = wipe σ vs ∧ tt σ2 H2 fun ok H3 =>
          if ok = true then tk σ2 H3 fun y H4 => tv σ2 H4 fun z H5 => ∃ kvs k b, y = .ref b ∧ H5 b = some (.tup (k.map kV)) ∧
            H5 D = some (.dT kvs) ∧ kvs.length < sizeLine ∧ Nx (upd H5 D (.dT (putK kvs k z))) else Nx H3)
theorem has_free {scope : Scope} {own : List (Str × Nat)} {pn : List (Addr × Obj)} {σ : St} {H : Hp} {s : Shared}
    (J : Inv X pn σ H s) (ok : BlkOk X.N X.env.scope scope own) : ∀ y ∈ scope.names, y.2 = .free → ∃ c, X.env.cells.lookup y.1 = some c :=
  fun y hy e => (ok.free y hy e).elim (fun k => J.ok.has _ (.inl k)) fun k => J.ok.has _ (.inr k)
theorem pe_dcT {kx vx tg iter : Expr} {ifs : List Expr} {scope : Scope} {own : List (Str × Nat)} {pos : Pos} {wi : TI} {g : TG} {tt : TT}
    {tk tv : TE} (hu : X.A.units + 2 < cLine) (hc : X.calm = true) (hN : X.N.Nodup) (hi : PI X tg iter wi) (ok : BlkOk X.N X.env.scope scope own)
    (hg : ∀ (s : Shared) (H : Hp) (C : Addr) (cl : List (Str × Addr)) (fp : List Addr),
      PG (X.blk s H scope (compEnvC scope cl C X.env) fp) tg g)
    (ht : ∀ (s : Shared) (H : Hp) (C : Addr) (cl : List (Str × Addr)) (fp : List Addr),
      PTs (X.blk s H scope (compEnvC scope cl C X.env) fp) ifs tt)
    (hk : ∀ (s : Shared) (H : Hp) (C : Addr) (cl : List (Str × Addr)) (fp : List Addr),
      PE (X.blk s H scope (compEnvC scope cl C X.env) fp) kx tk)
    (he : ∀ (s : Shared) (H : Hp) (C : Addr) (cl : List (Str × Addr)) (fp : List Addr),
      PE (X.blk s H scope (compEnvC scope cl C X.env) fp) vx tv)
    (hs : ∀ x, foldedSetIterable iter X.env x = pure x := by intro _; rfl) :
    PE X (.DictComp kx vx [⟨tg, iter, ifs, 0⟩] scope pos) (tDcT wi g tt tk tv (own.map (·.2))) := by
  refine ⟨fun pn sA σ HA Q J0 want => ?_⟩
  rw [arm_eval_DictComp]
  refine wpAny_comprehension_free (use := none) rfl hs (closure_ok (has_free J0 ok)) ok.kind (fun y hy e => by rw [ok.uniq y hy, e])
    (thn (hi.run pn sA σ HA _ J0 want) fun xv sB hx => thn hx fun itv sC hC => ?_)
  obtain ⟨it, fp, tn, J, HC, e, JC, T, stC, fC, q⟩ := hC
  subst e
  refine wpAny_newObj_type (newEnv_comp ?_)
  generalize eqD : sC.heap.objs.size = D
  have freeD : HC D = none := JC.hok.fresh (Nat.le_of_eq eqD)
  obtain ⟨W, ⟨m0, w0⟩, turn⟩ := q D freeD
  let emp : Obj := { cls := .type "dict", data := .dict #[] }
  generalize eqs : ({ sC with heap := sC.heap.push emp } : Shared) = sD
  have hpD : sD.heap = sC.heap.push emp := by rw [← eqs]
  have JD : Inv X pn σ (upd HC D (.dT [])) sD := by
    rw [← eqs]
    refine JC.laid (t' := sC.toks) (fun b o eb => Heap.get?_push_of_some _ eb) (Nat.le_of_eq eqD) ?_
    rw [← eqD]
    exact dt_empty sC.heap JC.big
  have below : ∀ b ∈ fp, b < sC.heap.objs.size := fun b hb =>
    let ⟨o, eb, _⟩ := T.obj _ _ stC b hb
    Heap.lt_size eb
  have fD : ∀ b ∈ fp, FpOk X pn (upd HC D (.dT [])) b ∧ b < sD.heap.objs.size := fun b hb => by
    have lt := below b hb
    refine ⟨⟨?_, (fC b hb).2⟩, by rw [hpD, Heap.size_push]; exact Nat.lt_succ_of_lt lt⟩
    rw [upd_ne (by rw [← eqD]; exact Nat.ne_of_lt lt)]
    exact (fC b hb).1
  have stD : tn 0 sD.heap := T.keep _ _ _ stC fun b _ o eb => by
    rw [hpD]
    exact Heap.get?_push_of_some _ eb
  have JE := block_start JD ok hN fD
  let cl := cellsFrom (sD.heap.objs.size + 1) scope.names (cloFrom X.env.cells scope.names [])
  have pg := hg sD (upd HC D (.dT [])) sD.heap.objs.size cl fp
  have pt := ht sD (upd HC D (.dT [])) sD.heap.objs.size cl fp
  have pk := hk sD (upd HC D (.dT [])) sD.heap.objs.size cl fp
  have pv := he sD (upd HC D (.dT [])) sD.heap.objs.size cl fp
  show codeAny _ _ (.compStart (.DictComp kx vx [⟨tg, iter, ifs, 0⟩] scope pos) 0 (.ref it) (.ref D) (compEnvC scope cl sD.heap.objs.size X.env))
    (compPost (model X.prog X.w) X.A X.xe none (EP X pn σ Q) (.ref D) sD.heap.objs.size)
    { sD with heap := pushCells (sD.heap.push emp) scope.names }
  have noFp : ∀ b ∈ fp, (upd HC D (.dT [])) b = none := fun b hb => (fD b hb).1.1
  generalize eqce : compEnvC scope cl sD.heap.objs.size X.env = ce at JE pg pt pk pv ⊢
  have ceL : ce.locals = sD.heap.objs.size := by subst eqce; rfl
  generalize upd HC D (.dT []) = HD at JD JE pg pt pk pv w0 noFp fD
  generalize eqE : ({ sD with heap := pushCells (sD.heap.push emp) scope.names } : Shared) = sE at JE ⊢
  have stE : tn 0 sE.heap := T.keep _ _ _ stD fun b _ o eb => by
    rw [← eqE]
    exact pushCells_keeps _ _ _ _ (Heap.get?_push_of_some _ eb)
  have still : ∀ {σ' : St} {H' : Hp} {s' : Shared}, Inv (X.blk sD HD scope ce fp) [] σ' H' s' → (∀ b ∈ fp, H' b = none) →
      ∀ b ∈ fp, FpOk (X.blk sD HD scope ce fp) [] H' b := fun {σ' H' s'} J' none_ b hb =>
    ⟨none_ b hb, (J'.ok.exf b hb).1, J'.ok.exfs b hb, .inl hb, fun x c ec => (J'.ok.exf b hb).2 x c ec, fun p hp => by simp at hp⟩
  have whole : codeAny (model X.prog X.w) X.A (.compLoop (.DictComp kx vx [⟨tg, iter, ifs, 0⟩] scope pos) 0 (.ref it) (.ref D) ce)
      (compPost (model X.prog X.w) X.A X.xe none (EP X pn σ Q) (.ref D) sD.heap.objs.size) sE := by
    refine compLoop_anyD (fun n s' => ∃ i H', Inv (X.blk sD HD scope ce fp) [] (wipe σ (own.map (·.2))) H' s' ∧ tn i s'.heap ∧
      (∀ b ∈ fp, H' b = none) ∧ W i n H') ?_ m0 ⟨0, HD, JE, stE, noFp, w0⟩
    rintro n s5 ⟨i, H5, J5, st5, n5, w5⟩
    rcases turn i n H5 w5 with ⟨stop, done⟩ | ⟨go, Nx, less, step⟩
    · have td := T.done (X.blk sD HD scope ce fp) rfl rfl rfl hc i [] s5 _ H5 (fun _ _ => False) J5 (still J5 n5) st5 stop
      refine thnF td fun r s6 ⟨none_, J6⟩ => ?_
      subst none_
      have J7 : Inv X pn σ H5 s6 := JD.call' (ch := fp) J6.os J6.base J6.hok J6.bare fun b hb =>
        ⟨(fD b hb).1.2.2.2.1, (fD b hb).1.2.1, (fD b hb).1.2.2.2.2.1, (fD b hb).1.2.2.2.2.2⟩
      have freeC : H5 sD.heap.objs.size = none := ceL ▸ (show H5 ce.locals = none from J6.free)
      obtain ⟨mm, ns, _⟩ := J6.loc
      have ns' : s6.heap.Ns sD.heap.objs.size mm := ceL ▸ (show s6.heap.Ns ce.locals mm from ns)
      obtain ⟨f0, f1, f2, f3, f4, f5⟩ := JD.fpOk (H' := H5) (Nat.le_refl _) freeC
      exact ⟨mm, ns', fun h'' sb => ⟨.ref D, H5, J7.turned (t' := s6.toks) (fun b o hb eb => (sb.2 b hb).trans eb) f0 f1 f3 f4 f5, rfl, done⟩⟩
    · have ti := T.item (X.blk sD HD scope ce fp) rfl rfl rfl hc i [] s5 _ H5 (fun _ _ => False) J5 (still J5 n5) st5 go
      refine thnF ti fun r s6 ⟨u, some_, h6⟩ => ?_
      subst some_
      refine thnF h6 fun _ s7 ⟨x, H7, J7, r7, y7, st7, n7⟩ => ?_
      have J7' := J7.pinned (still J7 n7) (T.obj _ _ st7)
      refine thnF (pg.run _ s7 _ H7 x u _ J7' r7 (step x H7 y7)) fun _ s8 ⟨σ8, H8, J8, same8, q8⟩ => ?_
      refine thnF (pt.run _ s8 σ8 H8 _ J8 q8) fun yes s9 ⟨H9, J9, q9⟩ => ?_
      have after : ∀ {s' : Shared} {H' : Hp}, Inv (X.blk sD HD scope ce fp) ([] ++ pinsAt fp s7.heap) σ8 H' s' → Nx H' →
          ∃ m, m < n ∧ ∃ i H', Inv (X.blk sD HD scope ce fp) [] (wipe σ (own.map (·.2))) H' s' ∧ tn i s'.heap ∧
            (∀ b ∈ fp, H' b = none) ∧ W i m H' := fun {s' H'} J' nx => by
        obtain ⟨m', lt, w'⟩ := less H' nx
        have pinned_ : ∀ b ∈ fp, ∀ o, s7.heap.get? b = some o → s'.heap.get? b = some o ∧ H' b = none := fun b hb o eb =>
          let z := J'.pin (b, o) (List.mem_append_right _ (List.mem_append_right _ (mem_pinsAt hb eb)))
          ⟨z.1, z.2.1⟩
        refine ⟨m', lt, i + 1, H', (J'.unpinned (pins := [])).weak (by rw [← same8, wipe_length]) (fun j v ev => ?_),
          T.keep _ _ _ st7 fun b hb o eb => (pinned_ b hb o eb).1, fun b hb => ?_, w'⟩
        · rw [← same8] at ev
          exact (wipe_some ev).1
        · obtain ⟨o, eb, _⟩ := T.obj _ _ st7 b hb
          exact (pinned_ b hb o eb).2
      cases yes with
      | false => exact after J9 (by simpa using q9)
      | true =>
        simp only [if_true] at q9 ⊢
        refine thnF (pk.run _ s9 σ8 H9 _ J9 q9) fun kv s10 ⟨yk, H10, J10, r10, q10⟩ => ?_
        refine thnF (pv.run _ s10 σ8 H10 _ J10 q10) fun vv s11 ⟨yv, H11, J11, r11, kvs, k, b, ek, hb, hD, small, nx⟩ => ?_
        subst ek
        cases (show kv = Value.ref b from r10)
        exact put_tupKey (X := X.blk sD HD scope ce fp) hu J11 hD small hb r11 fun s12 J12 => after J12 nx
  exact codeAny_compStart_dict whole (T.self X.A 0 _ _ _ stE whole)
end
section
variable {J : It} {n : Nat} {G : Hp → Prop} {Y : Nat → Hp → V → Hp → Prop}
/-- a dict comprehension with tuple keys over what is walked: Pv by the turn and the heap -/
theorem dcT_it (w : Walk J n G Y) {g : TG} {tt : TT} {tk tv : TE} {vs : List Nat} {σ : St} {H1 : Hp} {D : Addr} {Qd : Hp → Prop} (Pv : Nat → Hp → Prop)
    (start : Pv 0 (upd H1 D (.dT []))) (keep : ∀ i H, i ≤ n → Pv i H → G H)
    (step : ∀ i x H H', i < n → Pv i H → Y i H x H' → g x (wipe σ vs) H' fun σ2 H2 => wipe σ2 vs = wipe σ vs ∧ tt σ2 H2 fun ok H3 =>
      if ok = true then tk σ2 H3 fun y H4 => tv σ2 H4 fun z H5 => ∃ kvs k b, y = .ref b ∧ H5 b = some (.tup (k.map kV)) ∧
        H5 D = some (.dT kvs) ∧ kvs.length < sizeLine ∧ Pv (i + 1) (upd H5 D (.dT (putK kvs k z))) else Pv (i + 1) H3)
    (fin : ∀ H, Pv n H → Qd H) :
    ∃ W : Nat → Nat → Hp → Prop, (∃ m, W 0 m (upd H1 D (.dT []))) ∧ ∀ i m H, W i m H → (J.stop i H ∧ Qd H) ∨
      (J.go i H ∧ ∃ Nx : Hp → Prop, (∀ H', Nx H' → ∃ m', m' < m ∧ W (i + 1) m' H') ∧
        ∀ x H', J.yld i H x H' → g x (wipe σ vs) H' fun σ2 H2 => wipe σ2 vs = wipe σ vs ∧ tt σ2 H2 fun ok H3 =>
          if ok = true then tk σ2 H3 fun y H4 => tv σ2 H4 fun z H5 => ∃ kvs k b, y = .ref b ∧ H5 b = some (.tup (k.map kV)) ∧
            H5 D = some (.dT kvs) ∧ kvs.length < sizeLine ∧ Nx (upd H5 D (.dT (putK kvs k z))) else Nx H3) := by
  refine ⟨fun i m H => m + i = n ∧ Pv i H, ⟨n, rfl, start⟩, ?_⟩
  rintro i m H ⟨le, p⟩
  have here := keep i H (by omega) p
  rcases Nat.lt_or_ge i n with lt | ge
  · exact .inr ⟨w.goes i H lt here, Pv (i + 1), fun H' p' => ⟨n - (i + 1), by omega, by omega, p'⟩, fun x H' y => step i x H H' lt p (w.yields i H x H' lt here y)⟩
  · obtain rfl : i = n := by omega
    exact .inl ⟨w.stops H here, fin H p⟩
/-- the same, keys texts or ints -/
theorem dcK_it (w : Walk J n G Y) {g : TG} {tt : TT} {tk tv : TE} {vs : List Nat} {σ : St} {H1 : Hp} {D : Addr} {Qd : Hp → Prop} (Pv : Nat → Hp → Prop)
    (start : Pv 0 (upd H1 D (.dK []))) (keep : ∀ i H, i ≤ n → Pv i H → G H)
    (step : ∀ i x H H', i < n → Pv i H → Y i H x H' → g x (wipe σ vs) H' fun σ2 H2 => wipe σ2 vs = wipe σ vs ∧ tt σ2 H2 fun ok H3 =>
      if ok = true then tk σ2 H3 fun y H4 => tv σ2 H4 fun z H5 => ∃ kvs k, y = kV k ∧ H5 D = some (.dK kvs) ∧ kvs.length < sizeLine ∧
        Pv (i + 1) (upd H5 D (.dK (putK kvs k z))) else Pv (i + 1) H3)
    (fin : ∀ H, Pv n H → Qd H) :
    ∃ W : Nat → Nat → Hp → Prop, (∃ m, W 0 m (upd H1 D (.dK []))) ∧ ∀ i m H, W i m H → (J.stop i H ∧ Qd H) ∨
      (J.go i H ∧ ∃ Nx : Hp → Prop, (∀ H', Nx H' → ∃ m', m' < m ∧ W (i + 1) m' H') ∧
        ∀ x H', J.yld i H x H' → g x (wipe σ vs) H' fun σ2 H2 => wipe σ2 vs = wipe σ vs ∧ tt σ2 H2 fun ok H3 =>
          if ok = true then tk σ2 H3 fun y H4 => tv σ2 H4 fun z H5 => ∃ kvs k, y = kV k ∧ H5 D = some (.dK kvs) ∧ kvs.length < sizeLine ∧
            Nx (upd H5 D (.dK (putK kvs k z))) else Nx H3) := by
  refine ⟨fun i m H => m + i = n ∧ Pv i H, ⟨n, rfl, start⟩, ?_⟩
  rintro i m H ⟨le, p⟩
  have here := keep i H (by omega) p
  rcases Nat.lt_or_ge i n with lt | ge
  · exact .inr ⟨w.goes i H lt here, Pv (i + 1), fun H' p' => ⟨n - (i + 1), by omega, by omega, p'⟩, fun x H' y => step i x H H' lt p (w.yields i H x H' lt here y)⟩
  · obtain rfl : i = n := by omega
    exact .inl ⟨w.stops H here, fin H p⟩
end
section
variable {X : Cx}
/-- y = {k: v for ..}, y a local name that the block has none of -/
theorem ps_setDc {i : Nat} {y : Str} {py : Pos} {kx vx tg iter : Expr} {ifs : List Expr} {scope : Scope} {own : List (Str × Nat)} {pos spos : Pos}
    {wi : TI} {g : TG} {tt : TT} {tk tv : TE} (hc : X.calm = true) (hN : X.N.Nodup) (hy : X.N[i]? = some y)
    (hyl : X.env.scope.names.lookup y = some .local)
    (swap : swapsWith (.DictComp kx vx [⟨tg, iter, ifs, 0⟩] scope pos) (some (.Name y py)) spos.line X.env = pure true)
    (hi : PI X tg iter wi) (ok : BlkOk X.N X.env.scope scope own)
    (hg : ∀ (s : Shared) (H : Hp) (C : Addr) (cl : List (Str × Addr)) (fp : List Addr),
      PG (X.blk s H scope (compEnvC scope cl C X.env) fp) tg g)
    (ht : ∀ (s : Shared) (H : Hp) (C : Addr) (cl : List (Str × Addr)) (fp : List Addr),
      PTs (X.blk s H scope (compEnvC scope cl C X.env) fp) ifs tt)
    (hk : ∀ (s : Shared) (H : Hp) (C : Addr) (cl : List (Str × Addr)) (fp : List Addr),
      PE (X.blk s H scope (compEnvC scope cl C X.env) fp) kx tk)
    (he : ∀ (s : Shared) (H : Hp) (C : Addr) (cl : List (Str × Addr)) (fp : List Addr),
      PE (X.blk s H scope (compEnvC scope cl C X.env) fp) vx tv)
    (hs : ∀ x, foldedSetIterable iter X.env x = pure x := by intro _; rfl) :
    PS X (.Assign [.Name y py] (.DictComp kx vx [⟨tg, iter, ifs, 0⟩] scope pos) spos) (tAsg (tDc wi g tt tk tv (own.map (·.2))) (gName i)) := by
  refine ⟨fun pn sA σ HA D J want => ?_⟩
  rw [exec_Assign_Name_used _ _ _ _ swap]
  have want' : tDc wi g tt tk tv (own.map (·.2)) σ HA (fun x H1 => gName i x σ H1 D.nx) := want
  refine wpAny_bind (wpAny_standAt (wpAny_bind (wpAny_bind (thn (dc_core (Qf := fun _ s' => SP X pn D .next s') hc hN J hi ok hg ht hk he hs want'
    fun L C s' m H' J' q ns f => ?_) fun _ s' hq => wpAny_pure (wpAny_pure hq)))))
  refine wpAny_assign_Name (store_ok2 (v := V.ref L) J' hN hy (.inl hyl) rfl (fun s2 J2 ⟨a, sb, at_⟩ => ?_) (.inr hyl))
  obtain ⟨f0, f1, f2, f3, f4, f5⟩ := f
  have apart : C ≠ a := at_.elim (fun z => by rw [z]; exact f1) fun z e => f4 y a z e.symm
  exact ⟨m, ns.sameBut sb apart, fun h3 sb3 => ⟨_, H', J2.turned (t' := s2.toks) (fun b o hb e => (sb3.2 b hb).trans e) f0 f1 f3 f4 f5, q⟩⟩
theorem swap_dict {kx vx : Expr} {gs : List Comprehension} {scope : Scope} {pos py : Pos} {y : Str} {l : Nat} {env : Env} (hk : env.scope.kind = .function)
    (hy : env.scope.names.lookup y = some .local) (same : (py.line == pos.line) = true)
    (no : (scope.names.any fun (n, k) => n == y && (k == .local || k == .cell)) = false) : swapsWith (.DictComp kx vx gs scope pos) (some (.Name y py)) l env = pure true := by
  have k1 : env.kindOf y = some .local := hy
  have k2 : env.blockKind = .function := by
    unfold Env.blockKind
    rw [hk]
    rfl
  unfold swapsWith
  simp only [k1, k2, no, Expr.pos, same]
  rfl
end
theorem hu2_of {A : Around} {k : Nat} (hr : Room k A) : A.units + 2 < cLine := by
  have := hr.un
  omega
/-- what making an object keeps, no defaults -/
def KmkN (P : Program) (w : World) (K : PySem.W.Frag) (mg : Str → Option Value) (base : Heap) (C : Addr) (k : Nat) (ps : List Str) (sp : Sp) : Prop :=
  ∃ f fd, Mk K C f ∧ Binds K fd ps [] ∧ FnOk P w K mg base CX0 k f fd ps sp
theorem pe_kmkN {X : Cx} {k j : Nat} {ps : List Str} {sp : Sp} {x : Str} {p pos : Pos} {e : Expr} {es : List Expr} {t : TA} {C : Addr}
    (F : KmkN X.prog X.w X.K X.mg X.base C k ps sp) (hr : Room j X.A) (hg : Gl X x) (hm : X.mg x = some (.ref C))
    (ha : PA X (e :: es) t) (hj : k + 1 ≤ j := by decide) (hdb : (x == ("__debug__" : Str)) = false := by decide)
    (he : starEach (e :: es) X.env = (false, eval e X.env) :: starEach es X.env := by rfl)
    (hpl : (backTo pos (starEach es X.env)).any (·.1) = false := by rfl) (hx : Passes CX0 X E0 := by exact pass0) :
    PE X (.Call (.Name x p) (e :: es) [] pos) (tMake C sp [] E0 t) := by
  obtain ⟨f, fd, M, b, F⟩ := F
  exact pe_make M F (hr.mono hj) hg hm b .nil hx ha hdb he hpl
end L2

/-! own rules 19: for i, c in enumerate(a text) -/
namespace L2
open PySem PySem.Spec PyProof.Rows
/-- each sign of a text in a new pair with its place -/
def IteS (z : Str) : It :=
  ⟨fun i _ => i < z.cps.size, fun i H v H' => ∃ T c, v = .ref T ∧ H T = none ∧ H' = upd H T (.tup [.int (i : Nat), .str ⟨#[c]⟩]) ∧ z.cps[i]? = some c,
    fun i _ => z.cps.size ≤ i⟩
theorem draw_signs {P : Program} {w : World} {A : Around} (hh : A.handled = none) (it : Addr) (z : Str) (t : Tok) :
    Draws P w A it [it] z.cps.size (fun i v => ∃ c u, z.cps[i]? = some c ∧ v = .str ⟨#[c]⟩ u) (fun i h => h.IsStrIter it (strIterType z) z t i) := by
  unfold strIterType
  split
  · exact Draws.strAscii hh it z t
  · exact Draws.strWide hh it z t
theorem turn_enumS {P : Program} {w : World} {K : PySem.W.Frag} {elts : List Expr} {kk : Nat} {tpos : Pos} (z : Str) (t : Tok) (e it : Addr) :
    Turn P w K (.Tuple elts kk tpos) (IteS z) [e, it] e
      (fun i h => (∃ old, IsEnum h e it ((i : Nat) : Int) old) ∧ h.IsStrIter it (strIterType z) z t i ∧ e ≠ it ∧ i ≤ z.cps.size) where
  mem := by simp
  obj := fun i h st b hb => by
    obtain ⟨⟨old, he⟩, ⟨o, ho, _, od⟩, _⟩ := st
    rcases (show b = e ∨ b = it by simpa using hb) with q | q
    · rw [q]
      exact ⟨_, he, fun v n => nomatch n⟩
    · rw [q]
      exact ⟨o, ho, fun v n => by rw [od] at n; cases n⟩
  keep := fun i h h' ⟨⟨old, he⟩, ⟨o, ho, r⟩, ne, le⟩ k => ⟨⟨old, k e (by simp) _ he⟩, ⟨o, k it (by simp) o ho, r⟩, ne, le⟩
  item := by
    intro X eP ew eK calm i pins s σ H E J fp st more
    subst eP ew eK
    obtain ⟨⟨old, he⟩, hit, ne, le⟩ := st
    have more' : i < z.cps.size := more
    have le1 : e < s.heap.objs.size := Heap.lt_size he
    have le2 : it < s.heap.objs.size := let ⟨_, q, _⟩ := hit; Heap.lt_size q
    refine wpAny_pyNext_enum_itemD (draw_signs (by exact J.ok.hd calm) it z t) he hit more' ne (by simpa using ne)
      fun u h' tk ⟨c, tu, hc, eu⟩ out hit' hT hsz kept => ?_
    subst eu
    refine ⟨_, rfl, wpAny_letOwnedTupleGo_enum (s := { s with heap := h', toks := tk + 1 }) out fun h'' he' sb => ?_⟩
    have hT2 : h''.get? s.heap.objs.size = some { cls := .type "tuple", data := .seq #[.int i tk, .str ⟨#[c]⟩ tu] } :=
      (sb.2 _ (Nat.ne_of_gt le1)).trans hT
    have isNew : ObjOk X.prog X.w (upd H s.heap.objs.size (.tup [.int (i : Nat), .str ⟨#[c]⟩])) h'' s.heap.objs.size
        (.tup [.int (i : Nat), .str ⟨#[c]⟩]) :=
      ⟨by show 2 ≤ sizeLine; decide, [.int i tk, .str ⟨#[c]⟩ tu], .cons ⟨_, rfl⟩ (.cons ⟨_, rfl⟩ .nil), ⟨_, hT2, rfl, _, rfl⟩⟩
    have J1 : Inv X pins σ (upd H s.heap.objs.size (.tup [.int (i : Nat), .str ⟨#[c]⟩])) { s with heap := h'', toks := tk + 1 } :=
      J.turnedNew (ch := [e, it]) (fun b ob hb q => (sb.2 b (fun n => hb (by simp [n]))).trans
        (kept b ob (fun n => hb (by simp [n])) (fun n => hb (by simp [n])) q)) fp (Nat.le_refl _) isNew
    refine ⟨.ref s.heap.objs.size, _, J1, rfl, ⟨_, c, rfl, J.hok.fresh (Nat.le_refl _), rfl, hc⟩,
      ⟨⟨.str ⟨#[c]⟩ tu, ?_⟩, ?_, ne, more'⟩, fun b hb => ?_⟩
    · have e1 : ((i + 1 : Nat) : Int) = (i : Int) + 1 := by omega
      rw [e1]
      exact he'
    · obtain ⟨o, ho, r⟩ := hit'
      exact ⟨o, (sb.2 it (Ne.symm ne)).trans ho, r⟩
    · have : b < s.heap.objs.size := by
        rcases (show b = e ∨ b = it by simpa using hb) with q | q
        · rw [q]; exact le1
        · rw [q]; exact le2
      rw [upd_ne (Nat.ne_of_lt this)]
      exact (fp b hb).1
  done := by
    intro X eP ew eK calm i pins s σ H E J fp st stop
    subst eP ew eK
    obtain ⟨⟨old, he⟩, hit, ne, le⟩ := st
    obtain rfl : i = z.cps.size := Nat.le_antisymm le stop
    obtain ⟨f0, f1, f2, f3, f4, f5⟩ := fp it (by simp)
    exact wpAny_pyNext_enum_endD (draw_signs (by exact J.ok.hd calm) it z t) he hit fun h' ext =>
      ⟨rfl, J.turned (t' := s.toks) (fun b o hb q => ext b o hb q) f0 f1 f3 f4 f5⟩
  self := fun A i s Q E ⟨⟨_, he⟩, _⟩ h => wpAny_pyIter_enum he h
def iEnumS (ta : TA) : TI := fun σ H R => ta σ H fun vs H1 => ∃ z, vs = [.str z] ∧ R (IteS z) H1
theorem pi_enumS {X : Cx} {e : Expr} {ta : TA} {p pos tpos : Pos} {elts : List Expr} {kk : Nat} (hg : Gl X "enumerate") (hm : X.mg "enumerate" = none)
    (ha : PA X [e] ta) (one : starEach [e] X.env = [(false, eval e X.env)] := by rfl) :
    PI X (.Tuple elts kk tpos) (.Call (.Name "enumerate" p) [e] [] pos) (iEnumS ta) := by
  refine ⟨fun pn sA σ H R J want => ?_⟩
  refine Call_ (ld_blt J hg hm boot_enumerate (PyProof.Rows.callWith_type1 (thn (ha.run pos pn sA σ H _ J want)
    fun us s1 ⟨vs, H1, J1, r1, z, ez, q⟩ => ?_) one rfl))
  subst ez
  obtain ⟨u, rfl, t, rfl⟩ := vals1 r1
  refine call_enumerate_str fun h' he hit hsz hk => wpAny_pyIter_enum he ?_
  have J2 : Inv X pn σ H1 { s1 with heap := h' } := J1.kept (t' := s1.toks) hk
  refine ⟨s1.heap.objs.size + 1, [s1.heap.objs.size + 1, s1.heap.objs.size], _, _, H1, rfl, J2, turn_enumS z t _ _,
    ⟨⟨.none, he⟩, hit, Nat.succ_ne_self _, Nat.zero_le _⟩, fun b hb => ?_, q⟩
  have up : s1.heap.objs.size ≤ b := by
    rcases (show b = s1.heap.objs.size + 1 ∨ b = s1.heap.objs.size by simpa using hb) with n | n
    · rw [n]; exact Nat.le_succ _
    · rw [n]; exact Nat.le_refl _
  exact J1.fpOk up (J1.hok.fresh up)
theorem walk_enumS {z : Str} : Walk (IteS z) z.cps.size (fun _ => True)
    (YPair (fun i => some (.int (i : Nat))) (fun i => (z.cps[i]?).map fun c => V.str ⟨#[c]⟩)) :=
  ⟨fun _ _ hi _ => hi, fun _ _ => Nat.le_refl _, fun i H x H' _ _ ⟨T, c, h1, h2, h3, h4⟩ => ⟨T, _, _, h1, h2, h3, rfl, by show (z.cps[i]?).map _ = _; rw [h4]; rfl⟩⟩
end L2

/-! own rules 20: a caught exception that its clause hands on: kept as a value behind the clause; its fields, isinstance of it -/
namespace L2
open PySem PySem.Spec PyProof.Rows
/-- at a: an exception of the class at C, its dict d -/
def exc (a C : Addr) (d : Option Addr) : HO := .ext fun h =>
  ∃ (o : Obj) (us : Array Value), h.get? a = some o ∧ o.cls = .ref C ∧ o.dict = d ∧ o.data = .fields us
theorem exc_ok {P : Program} {w : World} {H : Hp} {h : Heap} {a C : Addr} {d : Option Addr} {o : Obj} {us : Array Value}
    (e : h.get? a = some o) (c : o.cls = .ref C) (k : o.dict = d) (z : o.data = .fields us) : ObjOk P w H h a (exc a C d) :=
  ⟨⟨o, us, e, c, k, z⟩, ⟨o, e⟩, fun _ _ ⟨u, vs, q, r⟩ st => ⟨u, vs, st u q, r⟩⟩
section
variable {X : Cx} {pins : List (Addr × Obj)} {σ : St} {H : Hp} {s : Shared}
/-- what stands in the heap, and was new to the def, is tracked from now on -/
theorem Inv.track {a : Addr} {o : HO} (I : Inv X pins σ H s) (hn : H a = none) (h0 : X.s_0.heap.get? a = none)
    (nL : a ≠ X.env.locals) (nC : ∀ x c, X.env.cells.lookup x = some c → c ≠ a) (nP : ∀ p ∈ X.pn ++ pins, p.1 ≠ a)
    (new : ObjOk X.prog X.w (upd H a o) s.heap a o) : Inv X pins σ (upd H a o) s where
  ok := I.ok
  os := I.os
  bare := I.bare
  base := {
    keep := I.base.keep
    slot := I.base.slot
    free := fun b u e n hx => by
      have hb : b ≠ a := fun z => by
        rw [z, h0] at e
        cases e
      rw [upd_ne hb]
      exact I.base.free b u e n hx
    there := I.base.there
    tups := fun b xs e => by
      have q := I.base.tups b xs e
      rw [upd_ne (ne_of_none q hn)]
      exact q
    frzs := fun b u v e => by
      have q := I.base.frzs b u v e
      rw [upd_ne (ne_of_none q hn)]
      exact q
    tbls := fun b ps e => by
      obtain ⟨m, q⟩ := I.base.tbls b ps e
      exact ⟨m, by rw [upd_ne (ne_of_none q hn)]; exact q⟩ }
  loc := I.loc
  cell := I.cell
  free := by
    rw [upd_ne (Ne.symm nL)]
    exact I.free
  freeC := fun x c e => by
    rw [upd_ne (nC x c e)]
    exact I.freeC x c e
  pin := fun p hp => by
    obtain ⟨e, n, r⟩ := I.pin p hp
    exact ⟨e, by rw [upd_ne (nP p hp)]; exact n, r⟩
  hok := I.hok.laidN (fun _ _ q => q) hn new
  len := I.len
end
/-- what a clause that keeps its exception wishes of the block ahead; i: the slot of its name, m: how many slots there are -/
def wKeep (K : PySem.W.Frag) (c : Value) (m i : Nat) (ts : Addr → Value → Option Addr → TS) (Wo : WX) (D : Ends) : WX := fun cls d σ H =>
  ∃ b, PySem.W.exmOne K cls c = some b ∧ (b = false → Wo cls d σ H) ∧
    (b = true → σ.length = m → ∃ C, cls = .ref C ∧ ∀ a, H a = none →
      ts a cls d { nx := fun σ' H' => D.nx (σ'.set i none) (upd H' a (exc a C d)), rt := fun _ _ => False } (σ.set i (some (.ref a))) H)
section
variable {X : Cx} {x n : Str} {c : Value} {i : Nat} {body suite : List Stmt} {b0 : Stmt} {np pos pos' : Pos} {tb : WX → TS}
  {ts : Addr → Value → Option Addr → TS} {Wo : WX}
theorem ps_try_keep (hs : X.stack = X.env :: X.outer) (hf : X.env.frame = some X.env.locals) (hex : X.ex = []) (hN : X.N.Nodup) (hi : X.N[i]? = some n)
    (hl : X.env.kindOf n = some .local) (hc : Names X x c) (tk : Takes X Wo)
    (hb : ∀ (W : WX) (pn : List (Addr × Obj)) (xe : Value → Shared → Prop), Takes (X.tr pn xe) W →
      PassesOwn (model X.prog X.w) X.A X.env xe → PSs (X.tr pn xe) body (tb W))
    (hsu : ∀ (a : Addr) (oe : Obj) (cls : Value) (d : Option Addr) (pn : List (Addr × Obj)), Zc cls d oe →
      (∃ vs, oe.data = .fields vs) → PSs (X.suite a ((a, oe) :: pn)) (b0 :: suite) (ts a cls d)) :
    PS X (.Try body [.ExceptHandler (some (.Name x np)) (some n) (b0 :: suite) pos'] [] [] pos)
      (fun D σ H => tb (wKeep X.K c X.N.length i ts Wo D) D σ H) := by
  constructor
  intro pins s σ H D I h
  have ok := I.ok
  have fr : X.A.frames = some (X.env :: X.outer) := by
    rw [ok.frames, hs]
  refine wpAny_Try_except (wpAny_mono ((hb (wKeep X.K c X.N.length i ts Wo D) (X.pn ++ pins) _ ?_ PassesOwn.looking).run [] s σ H D (I.toTry _) h) ?_ (fun _ _ e => e))
  rotate_left
  · intro f s1 q
    cases f with
    | next =>
      obtain ⟨σ1, H1, I1, q1⟩ := q
      exact wpAny_execs_nil ⟨σ1, H1, I1.ofTry ok, q1⟩
    | brk =>
      obtain ⟨σ1, H1, I1, q1⟩ := q
      exact ⟨σ1, H1, I1.ofTry ok, q1⟩
    | cont =>
      obtain ⟨σ1, H1, I1, q1⟩ := q
      exact ⟨σ1, H1, I1.ofTry ok, q1⟩
    | ret u =>
      obtain ⟨v, σ1, H1, I1, r1, q1⟩ := q
      exact ⟨v, σ1, H1, I1.ofTry ok, r1, q1⟩
  · rintro u s2 ⟨a, B, sI, pins', σ', H', cls, d, rfl, J0, nb, up, sky, na, os, ag, b, hm, hno, hyes⟩
    have J : Inv X pins σ' H' sI := J0.ofTry ok
    have sky1 : Sky B (X.env :: X.outer) a (Zc cls d) X.env.locals s2.heap := by
      rw [← hs]
      exact sky
    refine Sky.land Zc.steady fr hf sky1 fun h3 fl up3 => ?_
    have J3 : Inv X pins σ' H' { s2 with heap := h3 } := J.landed nb fl.1 (up.trans up3) os ag
    obtain ⟨o3, us3, e3, z3, d3⟩ := fl.there
    have nfr : a ∉ frs (X.env :: X.outer) := fun hm => by
      obtain ⟨_, o, e, nf⟩ := fl.2.2.1.mem hm
      rw [e3] at e
      cases e
      exact nf _ d3
    have nL : a ≠ X.env.locals := fun z => nfr (List.mem_filterMap.mpr ⟨X.env, List.mem_cons_self, by rw [hf, z]⟩)
    have inFs : ∀ {b : Addr}, b ∈ X.fs → b ∈ frs (X.env :: X.outer) := fun hm => by
      obtain ⟨e, he, q⟩ := List.mem_filterMap.mp hm
      exact List.mem_filterMap.mpr ⟨e, List.mem_cons_of_mem _ he, q⟩
    have nF : a ∉ X.fs := fun hm => nfr (inFs hm)
    have a0 : ∀ o, sI.heap.get? a ≠ some o := fun o e => by
      have q := nb a o e (by
        show a ∉ frs X.stack
        rw [hs]
        exact nfr)
      rw [fl.2.1] at q
      cases q
    have h0 : X.s_0.heap.get? a = none := by
      cases e : X.s_0.heap.get? a with
      | none => rfl
      | some o =>
        obtain ⟨o', q⟩ := J.base.there a o e (by rw [hex]; exact fun z => nomatch z)
        exact absurd q (a0 o')
    have nP : ∀ p ∈ X.pn ++ pins, p.1 ≠ a := fun p hp z => by
      have q := (J.pin p hp).1
      rw [z] at q
      exact a0 _ q
    have S3 := J3.suite e3 d3 na nL nF
    refine wpAny_handleBy_cons (codeAny_handlers_test ?_) (by intro q; cases q)
    have LM := PySem.W.exm_one (M := model X.prog X.w) J3.kIn
      (fun A Q E s k q => wpAny_typeOf_ref (k _ _ e3) (by rw [z3.1]; exact q) : PySem.W.Looks (model X.prog X.w) h3 (typeOf (.ref a)) cls) hm
    have named : ∀ {Q : Value → Shared → Prop} {E : Value → Shared → Prop}, Q c { s2 with heap := h3 } →
        wpAny (model X.prog X.w) (X.A.mark (some (.ref a))) (eval (.Name x np) X.env) Q E { s2 with heap := h3 } := fun {Q E} q => by
      obtain ⟨hg, hdb, hm | ⟨hm, hv, hnn⟩⟩ := hc
      · exact ld_glob (X := X.suite a ((a, o3) :: (X.pn ++ pins))) S3 hg hm q hdb
      · exact ld_blt (X := X.suite a ((a, o3) :: (X.pn ++ pins))) S3 hg hm hv q hnn hdb
    refine named (LM.here ?_)
    cases b with
    | true =>
      obtain ⟨C, rfl, hk⟩ := hyes rfl J.len
      refine codeAny_handlers_suite_as (HandSPX.lands_againZ fl fun h4 fl4 up4 => ?_)
      have J4 : Inv X pins σ' H' { s2 with heap := h4 } := J.landed nb fl4.1 ((up.trans up3).trans up4) os ag
      obtain ⟨o4, us4, e4, z4, d4⟩ := fl4.there
      refine store_ok (X := X.suite a ((a, o4) :: (X.pn ++ pins))) (v := .ref a) (J4.suite e4 d4 na nL nF) hN hi (.inl hl) rfl (fun s5 S5 => ?_) (.inr hl)
      refine wpAny_mono ((hsu a o4 _ d (X.pn ++ pins) z4 ⟨_, d4⟩).run [] s5 _ H' _ S5 (hk a na)) (fun f s6 q => ?_) (fun _ _ z => False.elim z)
      cases f with
      | next =>
        obtain ⟨σ6, H6, S6, q6⟩ := q
        have Jp : Inv X ((a, o4) :: pins) σ6 H6 s6 := ⟨ok, S6.os, S6.bare, S6.base, S6.loc, S6.cell, S6.free, S6.freeC, fun p hp => by
          refine S6.pin p ?_
          rw [List.append_nil]
          rcases List.mem_append.mp hp with h | h
          · exact List.mem_cons_of_mem _ (List.mem_append_left _ h)
          · rcases List.mem_cons.mp h with h | h
            · rw [h]
              exact List.mem_cons_self
            · exact List.mem_cons_of_mem _ (List.mem_append_right _ h), S6.hok, S6.len⟩
        show wpAny (model X.prog X.w) X.A (do bindName X.env n .none; unbindBehindTheSuite X.env n pos') _ X.xe s6
        refine gone_ok Jp hN hi hl fun s7 J7 => ?_
        obtain ⟨e7, n7, _⟩ := J7.pin (a, o4) (List.mem_append_right _ List.mem_cons_self)
        have J8 : Inv X pins (σ6.set i none) H6 s7 := ⟨ok, J7.os, J7.bare, J7.base, J7.loc, J7.cell, J7.free, J7.freeC, fun p hp => J7.pin p (by
          rcases List.mem_append.mp hp with h | h
          · exact List.mem_append_left _ h
          · exact List.mem_append_right _ (List.mem_cons_of_mem _ h)), J7.hok, J7.len⟩
        refine ⟨_, _, J8.track n7 h0 nL (fun y k ek z => ?_) nP (exc_ok e7 z4.1 z4.2 d4), q6⟩
        obtain ⟨v, o, eo, dd⟩ := J8.cell y k ek
        rw [z] at eo
        have eo' : some o4 = some o := e7.symm.trans eo
        cases eo'
        rw [d4] at dd
        cases dd
      | brk =>
        obtain ⟨_, _, _, z⟩ := q
        exact False.elim z
      | cont =>
        obtain ⟨_, _, _, z⟩ := q
        exact False.elim z
      | ret u =>
        obtain ⟨_, _, _, _, _, z⟩ := q
        exact False.elim z
    | false =>
      refine wpAny_handleBy_nil ?_
      obtain ⟨k1, k2, k3, oe, vs, T, oT, ts', he, hz, hd, h1, hr⟩ := id fl
      unfold PySem.passOn
      refine wpAny_bind (wpAny_field he hd h1 ?_)
      rw [if_neg (show ¬ ((Value.ref T == Value.none) = true) from by simp)]
      have fin : wpAny (model X.prog X.w) X.A (setFlight (.ref a) X.env.frame)
          (fun _ s4 => wpAny (model X.prog X.w) X.A (throw (.ref a) : Sem Flow) (SP X pins D) X.xe s4) X.xe { s2 with heap := h3 } := by
        rw [hf]
        exact HandSPX.setFlight_upZ fl fun h4 hh up4 => wpAny_throw (tk _ _
          ⟨a, B, sI, pins, σ', H', cls, d, rfl, J, nb, (up.trans up3).trans up4, .inr (.inr (by rw [hs]; exact hh)), na, os, ag, hno rfl⟩)
      first
        | exact wpAny_bind (wpAny_pure (wpAny_bind fin))
        | exact wpAny_bind fin
end
/-! ### the kept one -/
theorem inst_exc {P : Program} {w : World} {H : Hp} {h : Heap} {a C dx : Addr} {fs : List (Str × V)}
    (hok : HOk P w H h) (ha : H a = some (exc a C (some dx))) (hd : H dx = some (.xd fs)) :
    ∃ (oe od : Obj) (mA : Str → Option Value), PySem.W.InstAt h a oe C (some od) ∧
      (∀ n, PySem.W.lookIn n od = some (mA n)) ∧ ∀ f, RelO (fs.lookup f) (mA f) := by
  have z : ObjOk P w H h a (exc a C (some dx)) := hok a _ ha
  obtain ⟨⟨oe, us, e, c, k, z⟩, _⟩ := z
  have y : ObjOk P w H h dx (.xd fs) := hok dx _ hd
  obtain ⟨mA, hn, r⟩ := y
  obtain ⟨od, ho, hl⟩ := lookIn_ns hn
  exact ⟨oe, od, mA, ⟨e, c, by unfold PySem.W.notCls; rw [z] <;> rfl, by rw [k]; exact ho⟩, hl, r⟩
/-- e.f, e kept -/
def tXw (K : PySem.W.Frag) (f : Str) (te : TE) : TE := fun σ H Q => te σ H fun x H1 =>
  ∃ (a C dx : Addr) (fs : List (Str × V)) (v : V), x = .ref a ∧ XCl K C ∧ PySem.W.findIn K (.ref C) f = some none ∧
    H1 a = some (exc a C (some dx)) ∧ H1 dx = some (.xd fs) ∧ fs.lookup f = some v ∧ Q v H1
/-- isinstance(e, c), e kept -/
def rIsw (K : PySem.W.Frag) : List V → Hp → VK → Prop := fun xs H Q =>
  ∃ (a C dx : Addr) (fs : List (Str × V)) (c : V) (cv : Value) (b : Bool), xs = [.ref a, c] ∧ XCl K C ∧
    H a = some (exc a C (some dx)) ∧ H dx = some (.xd fs) ∧
    (∀ u, RelV c u → u = cv) ∧ PySem.W.kitOne K (.ref C) cv = some b ∧ Q (.bl b) H
section
variable {X : Cx}
theorem pe_xw {e : Expr} {te : TE} {pos : Pos} {f : Str} (he : PE X e te)
    (hb : attributeBase e f X.env (eval e X.env) = eval e X.env := by rfl) :
    PE X (.Attribute e f pos) (tXw X.K f te) := by
  refine ⟨fun pins s σ H Q I h => attr_of hb (thn (he.run pins s σ H _ I h) fun u s1 hh => ?_)⟩
  obtain ⟨x, H1, I1, rx, a, C, dx, fs, v, rfl, T, hno, ha, hd, l, q⟩ := hh
  obtain rfl : u = Value.ref a := rx
  obtain ⟨oe, od, mA, J, hl, hr⟩ := inst_exc I1.hok ha hd
  obtain ⟨u, hu, ru⟩ := RelO.some_of (v := v) (o := mA f) (by rw [← l]; exact hr f)
  exact HandSPX.exc_get I1.kIn J T.ga T.gg T.ex (PySem.W.findObj_own T.hd hno rfl (by rw [hl, hu]))
    (handed_of ru) ⟨v, H1, I1.tok _, ru, q⟩
theorem call_isw : CallR X (.builtin "isinstance") (rIsw X.K) := by
  intro pins s σ H xs us Q I r h
  obtain ⟨a, C, dx, fs, c, cv, b, rfl, T, ha, hd, hc, e, q⟩ := h
  obtain ⟨u1, u2, rfl, r1, r2⟩ := vals2 r
  obtain rfl : u1 = Value.ref a := r1
  obtain rfl := hc _ r2
  obtain ⟨oe, od, _, J, _⟩ := inst_exc I.hok ha hd
  exact PySem.W.kia_one (PySem.W.kitx_exc T.ci T.ga T.gg T.ex T.ca T.cn T.ct T.co) I.kIn J e (fun z => nomatch z)
    fun tk => ⟨.bl b, H, I.tok tk, rfl, q⟩
end
end L2

/-! own rules 21: raise X(e, ..): X with an __init__ that sets one field or two -/
namespace L2
open PySem PySem.Spec PyProof.Rows
/-- what __init__ keeps; the dict is told to be new -/
def spInd (C : Addr) (fs : List Str) : Sp := fun vs H Q _ => ∃ (a : Addr) (xs : List V),
  vs = .ref a :: xs ∧ xs.length = fs.length ∧ H a = some (exo a C none) ∧
  ∀ (dx : Addr) (H' : Hp), H dx = none → dx ≠ a → But a H H' → H' a = some (exo a C (some dx)) →
    H' dx = some (exd dx (fs.zip xs).reverse) → Q .non H'
/-- what raising one keeps -/
def MkR (P : Program) (w : World) (K : PySem.W.Frag) (mg : Str → Option Value) (base : Heap) (x : Str) (fs : List Str) :
    Prop := mg x = some (.ref (adr mg x)) ∧ ∃ fI fd, XMk K (adr mg x) fI ∧ Binds K fd ("self" :: fs) [] ∧
  FnOk P w K mg base CX0 1 fI fd ("self" :: fs) (spInd (adr mg x) fs)
section
variable {P : Program} {w : World} {K : PySem.W.Frag} {mg : Str → Option Value} {base : Heap}
theorem ini1d {x q f : Str} {st : Stmt} {fI : Addr} {fd : FuncData} (E : ErrK K mg x [f])
    (F : Fun K "__init__" q st fI fd) (S : FnScope ["self", f] ["self", f] (defScope st))
    (hb : ∀ (cdv : Value) (A : Around) (outer : List Env) (s : Shared) (H : Hp) (E : XK),
      PSs (cxOf CX0 P w K mg base ["self", f] q (defScope st) fI cdv A outer s H E).nox (defBody st)
        (tOst K f (tVar 0) (tVar 1))) :
    FnOk P w K mg base CX0 1 fI fd ["self", f] (spInd (adr mg x) [f]) := by
  refine F.ok S (fun vs H Q E h => ?_) (fun cdv A outer s H vs Q E' hr h => ?_)
  · obtain ⟨a, xs, rfl, l, _⟩ := h
    simp only [List.length_cons] at l ⊢
    omega
  · obtain ⟨a, xs, rfl, l, ha, k⟩ := h
    obtain ⟨v, rfl⟩ : ∃ v, xs = [v] := by
      match xs, l with
      | [v], _ => exact ⟨v, rfl⟩
    refine ⟨_, hb cdv A outer s H E', _, rfl, _, rfl, a, _, rfl, E.T, E.na f (by simp), .inl ⟨ha, fun dx nd ne => ?_⟩⟩
    exact k dx _ nd ne (fun b hb o e => upd_oth hb (upd_new nd e)) upd_same ((upd_ne ne).trans upd_same)
theorem ini2d {x q f g : Str} {st : Stmt} {fI : Addr} {fd : FuncData} (E : ErrK K mg x [f, g])
    (F : Fun K "__init__" q st fI fd) (S : FnScope ["self", f, g] ["self", f, g] (defScope st))
    (hb : ∀ (cdv : Value) (A : Around) (outer : List Env) (s : Shared) (H : Hp) (E : XK),
      PSs (cxOf CX0 P w K mg base ["self", f, g] q (defScope st) fI cdv A outer s H E).nox (defBody st)
        (tSeq (tOst K f (tVar 0) (tVar 1)) (tOst K g (tVar 0) (tVar 2)))) :
    FnOk P w K mg base CX0 1 fI fd ["self", f, g] (spInd (adr mg x) [f, g]) := by
  refine F.ok S (fun vs H Q E h => ?_) (fun cdv A outer s H vs Q E' hr h => ?_)
  · obtain ⟨a, xs, rfl, l, _⟩ := h
    simp only [List.length_cons] at l ⊢
    omega
  · obtain ⟨a, xs, rfl, l, ha, k⟩ := h
    obtain ⟨v, u, rfl⟩ : ∃ v u, xs = [v, u] := by
      match xs, l with
      | [v, u], _ => exact ⟨v, u, rfl⟩
    refine ⟨_, hb cdv A outer s H E', _, rfl, _, rfl, a, _, rfl, E.T, E.na f (by simp), .inl ⟨ha, fun dx nd ne => ?_⟩⟩
    have ha2 : (upd (upd H dx (exd dx [(f, v)])) a (exo a (adr mg x) (some dx))) a = some (exo a (adr mg x) (some dx)) :=
      upd_same
    have hd2 : (upd (upd H dx (exd dx [(f, v)])) a (exo a (adr mg x) (some dx))) dx = some (exd dx [(f, v)]) :=
      (upd_ne ne).trans upd_same
    refine ⟨_, rfl, _, rfl, a, _, rfl, E.T, E.na g (by simp), .inr ⟨dx, _, ha2, hd2, (by show 1 ≤ 900; decide), ?_⟩⟩
    refine k dx _ nd ne (fun b hb o e => ?_) ((upd_ne ne.symm).trans ha2) upd_same
    exact upd_oth (ne_of_none e nd) (upd_oth hb (upd_new nd e))
end
/-- X(e, ..), to be raised -/
def tRz (C : Addr) (fs : List Str) (ta : TA) : St → Hp → XK → Prop := fun σ H Q => ta σ H fun vs H1 =>
  vs.length = fs.length ∧ fs.length ≤ 900 ∧ ∀ (d : Addr) (H' : Hp), H1 d = none → Same H1 H' →
    H' d = some (.xd (fs.zip vs).reverse) → Q (.ref C) (some d) H'
theorem PA.weaker {X : Cx} {es : List Expr} {ta : TA} (h : PA X es ta) :
    PA X es (fun σ H Q => ∃ Q0, ta σ H Q0 ∧ ∀ vs H1, Q0 vs H1 → Q vs H1) :=
  ⟨fun pos pins s σ H Q I ⟨Q0, z, k⟩ => thn (h.run pos pins s σ H Q0 I z) fun us s1 ⟨vs, H1, I1, r, q⟩ => ⟨vs, H1, I1, r, k _ _ q⟩⟩
section
variable {X : Cx} {x : Str} {p pos pos' : Pos} {e : Expr} {es : List Expr} {ta : TA} {fs : List Str} {j : Nat} {W : WX}
theorem pmk_e (M : MkR X.prog X.w X.K X.mg X.base x fs) (hr : Room j X.A) (hg : Gl X x) (ha : PA X (e :: es) ta)
    (hj : 2 ≤ j := by decide) (hx : Passes CX0 X E0 := by exact pass0) (hdb : (x == ("__debug__" : Str)) = false := by decide)
    (he : starEach (e :: es) X.env = (false, eval e X.env) :: starEach es X.env := by rfl)
    (hpl : (backTo pos (starEach es X.env)).any (·.1) = false := by rfl) :
    PMk X (.Call (.Name x p) (e :: es) [] pos) (tRz (adr X.mg x) fs ta) := by
  obtain ⟨hm, fI, fd, XM, hb, F⟩ := M
  intro pins s σ H Q I h
  refine pmk_oex (sp := spInd (adr X.mg x) fs) (dvs := []) XM.T XM.ini XM.ty F (hr.mono hj) hb .nil hx hg hm ha.weaker hdb he hpl pins s σ H Q I ⟨_, h, fun vs H1 ⟨l, l9, k⟩ => ?_⟩
  refine ⟨by omega, fun a hn => ⟨a, vs ++ [], rfl, by rw [List.append_nil]; exact l, upd_same, fun dx H' nd ne hbt ea ed => ?_⟩⟩
  rw [List.append_nil] at ed
  have n1 : H1 dx = none := by
    rw [upd_ne ne] at nd
    exact nd
  refine ⟨rfl, dx, _, ea, ed, n1, k dx _ n1 (fun b o z => ?_) upd_same⟩
  have hba : b ≠ a := ne_of_none z hn
  rw [upd_ne (ne_of_none z n1), del_ne hba]
  exact hbt b hba o (upd_new hn z)
/-- raise X(e, ..) -/
theorem ps_rz (hc : X.calm = true) (tk : Takes X W) (M : MkR X.prog X.w X.K X.mg X.base x fs) (hr : Room j X.A) (hg : Gl X x)
    (ha : PA X (e :: es) ta) (hj : 2 ≤ j := by decide) (hx : Passes CX0 X E0 := by exact pass0)
    (hdb : (x == ("__debug__" : Str)) = false := by decide)
    (he : starEach (e :: es) X.env = (false, eval e X.env) :: starEach es X.env := by rfl)
    (hpl : (backTo pos (starEach es X.env)).any (·.1) = false := by rfl) :
    PS X (.Raise (some (.Call (.Name x p) (e :: es) [] pos)) none pos') (fun _ σ H => tRz (adr X.mg x) fs ta σ H fun cls d H' => W cls d σ H') :=
  ps_raise hc tk (pmk_e M hr hg ha hj hx hdb he hpl)
end
end L2

/-! own rules 22: an instance is called: its class has __call__ -/
namespace PySem.W
open PySem PySem.Calls PyProof.Rows
section
variable {prog : Program} {w : World} {M : Model} {A : Around} {E : Value → Shared → Prop} {s : Shared} {K : Frag} {x C f dx : Addr}
theorem q22_keeper {h : Heap} (hx : h.get? x = some (instObj C dx)) : Looks M h (keeperOf (.ref x)) .caller := by
  unfold keeperOf
  exact (Looks.ld (part := none) hx).andThen .now
theorem q22_call {R : Result → Shared → Prop} {args : Args} {o : Obj} {fd : FuncData} (X : K.In s.heap) (hx : s.heap.get? x = some (instObj C dx))
    (hs : findIn K (.ref C) "__call__" = some (some (.ref f))) (tf : typeIn K (.ref f) = some (.type "function"))
    (lk : K.lookup f = some o) (df : o.data = .func fd)
    (h : codeAny (model prog w) A (.call (.ref f) ⟨.ref x :: args.pos, args.kw⟩) R s) : codeAny (model prog w) A (.call (.ref x) args) R s := by
  refine codeAny_of_tree ?_
  show wpAny _ A.in1 (callAny (.ref x) args) _ _ s
  unfold callAny
  refine wpAny_bind ((Looks.ld (part := none) hx).here ?_)
  show wpAny _ A.in1 (callAny.viaDunder (.ref x) args) _ _ s
  unfold callAny.viaDunder
  have L1 : Looks (model prog w) s.heap (specialOf (.ref x) "__call__") (some (.ref f)) := by
    unfold specialOf
    refine Looks.andThen (a := .ref C) ?_ (looks_findIn X hs)
    exact (fun A Q E s k q => wpAny_typeOf_ref (k _ _ hx) q)
  have L2 : Looks (model prog w) s.heap (bindSpecial (.ref f) (.ref x)) (.ref f, [.ref x]) := bind_fn X (.ref x) tf
  have L3 : Looks (model prog w) s.heap (callAny.plainCallee (.ref f)) true := by
    unfold callAny.plainCallee
    refine (Looks.ld (part := none) (X _ _ lk)).andThen ?_
    rw [df]
    exact .now
  refine wpAny_bind (L1.here (wpAny_bind (L2.here (wpAny_bind (L3.here ?_)))))
  exact wpAny_pure ⟨rfl, h⟩
theorem q22_with {P : Heap → Prop} {pos : Pos} {g : Value} {first : List Value} {Q : Value → Shared → Prop} {args : List (Bool × Sem Value)}
    {keywords : List (Option Str × Sem Value)} (hplain : (args.any (·.1) || keywords.any (·.1.isNone)) = false)
    (hk : ∀ h, P h → Looks M h (keeperOf g) .caller)
    (h : wpAny M A (evalArgs g true args keywords) (fun a s1 => P s1.heap ∧ wpAny M A (call g (first ++ a.pos) a.kw) Q E s1) E s) :
    wpAny M A (callWith pos g first args keywords) Q E s := by
  unfold callWith
  refine wpAny_bind (wpAny_holding (wpAny_mono h (fun a s1 h1 => wpAny_bind (wpAny_standAt ?_)) fun _ _ x => x))
  simp only [hplain]
  refine wpAny_bind ((hk _ h1.1).here ?_)
  refine wpAny_bind (wpAny_operateT (wpAny_mono h1.2 (fun r s2 hr => ?_) fun _ _ x => x))
  exact wpAny_bind (wpAny_holding (wpAny_point (wpAny_pure hr)))
end
end PySem.W
namespace L2
open PySem PySem.Spec PyProof.Rows
/-- how a class is called by its instances -/
structure CallM (K : PySem.W.Frag) (C f : Addr) : Prop where
  at_ : PySem.W.findIn K (.ref C) "__call__" = some (some (.ref f))
  ty : PySem.W.typeIn K (.ref f) = some (.type "function")
  fn : PySem.W.fnIn K f = true
theorem CallM.lk {K : PySem.W.Frag} {C f : Addr} (M : CallM K C f) : ∃ o fd, K.lookup f = some o ∧ o.data = .func fd := by
  have h := M.fn
  unfold PySem.W.fnIn at h
  split at h
  · rename_i e
    exact ⟨_, _, e, rfl⟩
  · cases h
/-- x(..), x an instance -/
def tInst (C : Addr) (sp : Sp) (E : XK) (tf : TE) (ta : TA) : TE := fun σ H Q => tf σ H fun x H1 => ∃ a, x = .ref a ∧
  ta σ H1 fun vs H2 => ∃ dx fs, H2 a = some (.ins C dx fs) ∧ sp (.ref a :: vs) H2 Q E
section
variable {X : Cx} {CX : CXT} {k j : Nat} {f C : Addr} {fd : FuncData} {ps : List Str} {sp : Sp} {E : XK} {x : Str} {p pos : Pos} {e : Expr} {es : List Expr} {tf : TE} {ta : TA}
theorem insGet {pins : List (Addr × Obj)} {σ : St} {H : Hp} {s : Shared} {a dx : Addr} {fs : List (Str × V)} (I : Inv X pins σ H s) (h : H a = some (.ins C dx fs)) :
    s.heap.get? a = some (PySem.W.instObj C dx) := by
  have z : ObjOk X.prog X.w H s.heap a (.ins C dx fs) := I.hok a _ h
  exact z.2.2.2.1
theorem run_inst {pins : List (Addr × Obj)} {σ : St} {H : Hp} {s : Shared} {Q : VK} {us ws : List Value} {vs : List V} {kw : List (Str × Value)} {a dx : Addr} {fs : List (Str × V)}
    (M : CallM X.K C f) (F : FnOk X.prog X.w X.K X.mg X.base CX k f fd ps sp) (hr : Room k X.A) (hx : Passes CX X E)
    (I : Inv X pins σ H s) (ea : H a = some (.ins C dx fs)) (r : Vals vs ws) (hb : BindsTo s fd ⟨.ref a :: us, kw⟩ (ps.zip (.ref a :: ws)))
    (h : sp (.ref a :: vs) H Q E) : wpAny (model X.prog X.w) X.A (call (.ref a) us kw) (EP X pins σ Q) X.xe s := by
  obtain ⟨o, fd', lk, df⟩ := M.lk
  refine wpAny_call (PySem.W.q22_call I.kIn (insGet I ea) M.at_ M.ty lk df
    (codeAny_mono (F.run X.A X.stack s H ⟨.ref a :: us, kw⟩ (.ref a :: ws) (.ref a :: vs) Q E hr I.env0 hb (.cons rfl r) h) fun r s' hq => ?_))
  cases r with
  | error e => exact hx pins σ H s e s' I hq
  | ok fl =>
    cases fl with
    | ret u => exact I.after hq
    | next => exact False.elim hq
    | brk => exact False.elim hq
    | cont => exact False.elim hq
theorem pe_inst (M : CallM X.K C f) (F : FnOk X.prog X.w X.K X.mg X.base CX k f fd ps sp) (hr : Room k X.A) (hb : Binds X.K fd ps []) (hx : Passes CX X E)
    (he : PE X (.Name x p) tf) (ha : PA X (e :: es) ta)
    (hst : starEach (e :: es) X.env = (false, eval e X.env) :: starEach es X.env := by rfl)
    (hpl : (backTo pos (starEach es X.env)).any (·.1) = false := by rfl) :
    PE X (.Call (.Name x p) (e :: es) [] pos) (tInst C sp E tf ta) := by
  refine ⟨fun pins s σ H Q I h => ?_⟩
  refine wpAny_Call_Name_kw (thn (he.run pins s σ H _ I h) fun u s1 ⟨v, H1, I1, r1, a, ev, q1⟩ => ?_)
  subst ev
  obtain rfl : u = Value.ref a := r1
  refine PySem.W.q22_with (P := fun h => ∃ C dx, h.get? a = some (PySem.W.instObj C dx)) ?_ (fun h ⟨_, _, e⟩ => PySem.W.q22_keeper e) ?_
  · rw [hst]
    show ((false || (backTo pos (starEach es X.env)).any (·.1)) || false) = false
    rw [hpl]
    rfl
  · have go : wpAny (model X.prog X.w) X.A (spliced (backTo pos (starEach (e :: es) X.env))) (fun us s2 => (∃ C dx, s2.heap.get? a = some (PySem.W.instObj C dx)) ∧
        wpAny (model X.prog X.w) X.A (call (.ref a) us []) (EP X pins σ Q) X.xe s2) X.xe s1 :=
      thn (ha.run pos pins s1 σ H1 _ I1 q1) fun us s2 ⟨vs, H2, I2, r2, dx, fs, ea, hsp⟩ => by
        refine ⟨⟨C, dx, insGet I2 ea⟩, ?_⟩
        refine run_inst M F hr hx I2 ea r2 ?_ hsp
        have hl := F.len _ _ _ _ hsp
        have z := hb s2 (Value.ref a :: us) I2.kIn (by
          rw [List.append_nil, ← hl, List.length_cons, List.length_cons, Paired.length r2])
        rw [List.append_nil] at z
        exact z
    rw [hst] at go ⊢
    exact PySem.Calls.evalArgs_plain go
/-- how keywords bind behind the instance -/
def KwI (fd : FuncData) (ps ks : List Str) : Prop := ∀ (s : Shared) (u : Value) (ws : List Value), ws.length = ks.length →
  BindsTo s fd ⟨[u], ks.zip ws⟩ (ps.zip (u :: ws))
theorem pe_instK {kws : List Keyword} {ks : List Str} (M : CallM X.K C f) (F : FnOk X.prog X.w X.K X.mg X.base CX k f fd ps sp) (hr : Room k X.A) (hb : KwI fd ps ks) (hx : Passes CX X E)
    (hl : ∀ vs H Q E, sp vs H Q E → vs.length = ks.length + 1)
    (he : PE X (.Name x p) tf) (hkw : PK X kws ta) (hks : (backToKw pos (keywordEach kws X.env)).filterMap (·.1) = ks := by rfl)
    (hall : (backToKw pos (keywordEach kws X.env)).all (·.1.isSome) = true := by rfl)
    (hpl : ((backTo pos (starEach [] X.env)).any (·.1) || (backToKw pos (keywordEach kws X.env)).any (·.1.isNone)) = false := by rfl) :
    PE X (.Call (.Name x p) [] kws pos) (tInst C sp E tf ta) := by
  refine ⟨fun pins s σ H Q I h => ?_⟩
  refine wpAny_Call_Name_kw (thn (he.run pins s σ H _ I h) fun u s1 ⟨v, H1, I1, r1, a, ev, q1⟩ => ?_)
  subst ev
  obtain rfl : u = Value.ref a := r1
  refine PySem.W.q22_with (P := fun h => ∃ C dx, h.get? a = some (PySem.W.instObj C dx)) hpl (fun h ⟨_, _, e⟩ => PySem.W.q22_keeper e) ?_
  refine evalArgs_kw2_nil hall (thn (hkw.run pos pins s1 σ H1 _ I1 q1) fun us s2 ⟨vs, H2, I2, r2, dx, fs, ea, hsp⟩ => ⟨⟨C, dx, insGet I2 ea⟩, ?_⟩)
  rw [hks]
  refine run_inst (us := []) M F hr hx I2 ea r2 (hb s2 _ us ?_) hsp
  have := hl _ _ _ _ hsp
  rw [← Paired.length r2]
  simpa using this
/-- o.m(k = v), no default -/
theorem pe_methKw {pl : Sem Bool} {m : Str} {apos : Pos} {o : Expr} {to : TE} {kws : List Keyword} {ks : List Str} (he : PE X o to) (c : Cls X.K C) (hm : Meth X.K C m f)
    (F : FnOk X.prog X.w X.K X.mg X.base CX k f fd ps sp) (hr : Room k X.A) (hb : KwI fd ps ks) (hx : Passes CX X E) (hl : ∀ vs H Q E, sp vs H Q E → vs.length = ks.length + 1)
    (hkw : PK X kws ta) (hks : (backToKw pos (keywordEach kws X.env)).filterMap (·.1) = ks := by rfl)
    (hall : (backToKw pos (keywordEach kws X.env)).all (·.1.isSome) = true := by rfl)
    (hpl : ((backTo pos (starEach [] X.env)).any (·.1) || (backToKw pos (keywordEach kws X.env)).any (·.1.isNone)) = false := by rfl)
    (ht : eval (.Call (.Attribute o m apos) [] kws pos) X.env = (do
      let ov ← eval o X.env
      standAt apos.atName
      let (f, first) ← holding [ov] (getMethod ov m pl)
      callWith pos f first (backTo pos (starEach [] X.env)) (backToKw pos (keywordEach kws X.env))) := by rfl) :
    PE X (.Call (.Attribute o m apos) [] kws pos) (tMeth C m sp [] E to ta) := by
  refine ⟨fun pins s σ H Q I h => ?_⟩
  refine PySem.W.methodCall_KW (pl := pl) (thn (he.run pins s σ H _ I h) fun u s1 ⟨x, H1, I1, rx, a, dx, fs, ex, ea, l, q⟩ => ?_) ht
  subst ex
  obtain rfl : u = Value.ref a := rx
  refine getmeth_ok I1 ea c hm l ?_
  refine PySem.W.callWith_KW0 (first := [.ref a]) (h₀ := X.base) I.ok.mod.kin hm.kp hall (thn (hkw.run pos pins s1 σ H1 _ I1 q) fun us s2 ⟨vs, H2, I2, r2, hsp⟩ => ⟨I2.kIn, ?_⟩) hpl
  rw [hks]
  have hsp' : sp (.ref a :: vs) H2 Q E := by
    have z : sp (.ref a :: (vs ++ [])) H2 Q E := hsp
    rw [List.append_nil] at z
    exact z
  have hn := hl _ _ _ _ hsp'
  refine wpAny_call (codeAny_mono (F.run X.A X.stack s2 H2 ⟨[.ref a], ks.zip us⟩ (.ref a :: us) (.ref a :: vs) Q E hr I2.env0 (hb s2 _ us (by
    rw [← Paired.length r2]
    simpa using hn)) (.cons rfl r2) hsp') fun r s' hq => ?_)
  cases r with
  | error e => exact hx pins σ H2 s2 e s' I2 hq
  | ok fl =>
    cases fl with
    | ret u => exact I2.after hq
    | next => exact False.elim hq
    | brk => exact False.elim hq
    | cont => exact False.elim hq
end
end L2

/-! own rules 23: repr of data of any kind, None, bools, ints, texts too -/
namespace L2
open PySem PySem.Spec PyProof.Rows
/-- v is data and can be shown; its text -/
def Shw (K : PySem.W.Frag) (H : Hp) (v : V) (t : Str) : Prop := ∃ d : PyData, Dq K H v d ∧ d.showable = true ∧ d.depth ≤ 60 ∧
  d.shown.length ≤ sizeLine ∧ t = d.shown
def rRepV (K : PySem.W.Frag) : List V → Hp → VK → Prop := fun xs H Q => ∃ (v : V) (t : Str), xs = [v] ∧ Shw K H v t ∧ Q (.str t) H
theorem Shw.int {K : PySem.W.Frag} {H : Hp} (i : Int) (h : i.natAbs.log2 < 1920) : Shw K H (.int i) (toString i) :=
  ⟨_, .int i, by simpa [PyData.showable] using h, by simp [PyData.depth], by
    simpa only [PyData.shown] using int_text_fits h, by simp only [PyData.shown]⟩
theorem Shw.str {K : PySem.W.Frag} {H : Hp} (x : Str) (h : (reprText x).length ≤ sizeLine) : Shw K H (.str x) (reprText x) :=
  ⟨_, .str x, by simp [PyData.showable], by simp [PyData.depth], by simpa only [PyData.shown] using h, by simp only [PyData.shown]⟩
theorem call_reprV {X : Cx} (hA : X.A.guards = some []) (hu : X.A.units + 64 < cLine) : CallR X (.builtin "repr") (rRepV X.K) := by
  intro pins s σ H xs us Q I r h
  obtain ⟨v, t, rfl, ⟨d, hd, hs, hdp, hz, rfl⟩, q⟩ := h
  cases hd with
  | non =>
    obtain ⟨u, rfl, ru⟩ := vals1 r
    obtain rfl : u = Value.none := ru
    refine PySem.P.repr_of_none ⟨.str _, H, I.tok _, ⟨_, rfl⟩, ?_⟩
    simpa only [PyData.shown] using q
  | bl b =>
    obtain ⟨u, rfl, ru⟩ := vals1 r
    obtain rfl : u = Value.bool b := ru
    refine PySem.P.repr_of_bool ⟨.str _, H, I.tok _, ⟨_, rfl⟩, ?_⟩
    simpa only [PyData.shown] using q
  | int i =>
    obtain ⟨u, rfl, tk, rfl⟩ := vals1 r
    refine PySem.P.repr_of_int (by simpa [PyData.showable] using hs) ⟨.str _, H, I.tok _, ⟨_, rfl⟩, ?_⟩
    simpa only [PyData.shown] using q
  | str x =>
    obtain ⟨u, rfl, tk, rfl⟩ := vals1 r
    refine PySem.P.repr_of_str ⟨.str _, H, I.tok _, ⟨_, rfl⟩, ?_⟩ (by simpa only [PyData.shown] using hz)
    simpa only [PyData.shown] using q
  | lst h1 h2 => exact call_repq hA hu pins s σ H _ us Q I r ⟨_, _, rfl, .lst h1 h2, hs, hdp, hz, q⟩
  | tup h1 h2 => exact call_repq hA hu pins s σ H _ us Q I r ⟨_, _, rfl, .tup h1 h2, hs, hdp, hz, q⟩
  | dic h1 h2 => exact call_repq hA hu pins s σ H _ us Q I r ⟨_, _, rfl, .dic h1 h2, hs, hdp, hz, q⟩
end L2

/-! own rules 24: defs whose code object is known (they make lambdas); methods by what they keep -/
namespace L2
open PySem PySem.Spec PyProof.Rows
/-- a def with the code object cdv -/
structure FunC (K : PySem.W.Frag) (x qual : Str) (st : Stmt) (f : Addr) (fd : FuncData) (cdv : Value) : Prop where
  ex : ∃ (oc : Value) (od : Option Addr) (kV doc pm : Value) (an : Option Addr) (ct : Value) (osl : Array (Option Value)),
    fd = PySem.W.fnOf x qual (defArgs st) (defBody st) (defScope st) .none kV doc pm an cdv ct ∧
      K.lookup f = some ⟨oc, od, .func fd, osl⟩ ∧ PySem.W.codeIn K cdv qual = true
  kp : PySem.W.keepIn K (.ref f) = true
section
variable {P : Program} {w : World} {K : PySem.W.Frag} {mg : Str → Option Value} {base : Heap} {k : Nat}
  {f : Addr} {fd : FuncData} {ps : List Str} {sp : Sp} {cdv : Value}
theorem FunC.okG {x qual : Str} {st : Stmt} {N : List Str} (F : FunC K x qual st f fd cdv) (S : FnScope N ps (defScope st))
    (len : ∀ vs H Q E, sp vs H Q E → vs.length = ps.length)
    (hbody : ∀ (A : Around) (outer : List Env) (s : Shared) (H : Hp) (vs : List V) (Q : VK) (E : XK),
      (A.deeper (envOfC qual (defScope st) s.heap.objs.size f cdv)).guards = some [] →
      Room k (A.deeper (envOfC qual (defScope st) s.heap.objs.size f cdv)) → sp vs H Q E →
      ∃ t, PSs (cxOf CX0 P w K mg base N qual (defScope st) f cdv A outer s H E).nox (defBody st) t ∧
        t { nx := fun _ H' => Q .non H', rt := Q } (start N vs) H) :
    FnG P w K mg base CX0 (k + 1) f fd ps sp := by
  obtain ⟨oc, od, kV, doc, pm, an, ct, osl, rfl, lk, hcd⟩ := F.ex
  refine ⟨len, fun A outer s H args us vs Q E hg hr e0 hb r hsp => ?_⟩
  have hl := len _ _ _ _ hsp
  have KX : K.In s.heap := e0.mod.kin.keeps fun b o e => (e0.bs b o e).1
  have lim : s.heap.NoLimit := e0.mod.nolimit.keeps fun b o e => (e0.bs b o e).1
  have kinds : ∀ y ∈ ps.zip us, (defScope st).names.lookup y.1 = some .local ∨
      ((defScope st).names.lookup y.1 = some .cell ∧
        ((cellsFrom (s.heap.objs.size + 1) (defScope st).names []).lookup y.1).isSome = true) := by
    rintro ⟨n, v⟩ hy
    rcases S.par n (List.of_mem_zip hy).1 with q | q
    · exact .inl q
    · exact .inr ⟨q, PySem.W.cellsFrom_some _ _ _ (.inl q)⟩
  refine codeAny_call_function hr.depth (KX _ _ lk) rfl S.co S.gen rfl (PySem.W.codeRec_of KX hcd) (hb _ _ _ _ ?_)
  refine wpAny_newFunctionEnv_cells S.kind kinds fun env he s1 x => ?_
  subst he
  refine ⟨lim.keeps x.toInCall.keep, codeAny_func ?_⟩
  have hg' : (A.deeper (envOfC qual (defScope st) s.heap.objs.size f cdv)).guards = some [] := by
    first
      | exact hg
      | simpa [Around.deeper] using hg
  obtain ⟨t, ht0, hq⟩ := hbody A outer s H vs Q E hg' (hr.deeper _) hsp
  have ht := ht0.nox
  have I : Inv (cxOf CX0 P w K mg base N qual (defScope st) f cdv A outer s H E) [] (start N vs) H s1 :=
    inv_start S hr.hd e0 hl r x
  refine wpAny_mono (ht.run [] s1 (start N vs) H _ I hq) (fun fl s' hs => ?_) fun e s' hs => hs
  have fin : ∀ {σ' : St} {H' : Hp} {v : V} {u : Value},
      Inv (cxOf CX0 P w K mg base N qual (defScope st) f cdv A outer s H E) [] σ' H' s' → RelV v u → Q v H' →
      CE outer P w H s Q u s' := fun J rv q => ⟨_, _, J.os, J.bare, J.base, J.hok, rv, q⟩
  cases fl with
  | ret u =>
    obtain ⟨v, σ', H', J, rv, q⟩ := hs
    exact fin J rv q
  | next =>
    obtain ⟨σ', H', J, q⟩ := hs
    exact fin (v := V.non) (u := Value.none) J rfl q
  | brk =>
    obtain ⟨_, _, _, q⟩ := hs
    exact False.elim q
  | cont =>
    obtain ⟨_, _, _, q⟩ := hs
    exact False.elim q
/-- a def of the top that makes lambdas: its code object's table stands at T -/
def OwnC (K : PySem.W.Frag) (mg : Str → Option Value) (base : Heap) (x : Str) (st : Stmt) (ps : List Str) (T : Addr) : Prop :=
  ∃ f fd c, mg x = some (.ref f) ∧ FunC K x x st f fd (.ref c) ∧ Binds K fd ps [] ∧ LamX.TabB base mg c T
theorem OwnC.ok {x : Str} {st : Stmt} {N : List Str} {T : Addr} (O : OwnC K mg base x st ps T)
    (S : FnScope N ps (defScope st)) (len : ∀ vs H Q E, sp vs H Q E → vs.length = ps.length)
    (hbody : ∀ (f c : Addr) (A : Around) (outer : List Env) (s : Shared) (H : Hp) (vs : List V) (Q : VK)
      (E : XK), LamX.TabB base mg c T → (A.deeper (envOfC x (defScope st) s.heap.objs.size f (.ref c))).guards = some [] →
      Room k (A.deeper (envOfC x (defScope st) s.heap.objs.size f (.ref c))) → sp vs H Q E →
      ∃ t, PSs (cxOf CX0 P w K mg base N x (defScope st) f (.ref c) A outer s H E).nox (defBody st) t ∧
        t { nx := fun _ H' => Q .non H', rt := Q } (start N vs) H) :
    Kp P w K mg base (k + 1) x ps sp := by
  obtain ⟨f, fd, c, hm, F, b, TB⟩ := O
  exact ⟨f, fd, hm, F.kp, b, F.okG S len fun A outer s H vs Q E hg hr h => hbody f c A outer s H vs Q E TB hg hr h⟩
/-- a method's promise -/
def Kme (P : Program) (w : World) (K : PySem.W.Frag) (mg : Str → Option Value) (base : Heap) (C : Addr) (k : Nat) (m : Str) (ps ks : List Str) (sp : Sp) : Prop :=
  ∃ f fd, Meth K C m f ∧ Binds K fd ps [] ∧ KwI fd ps ks ∧ FnOk P w K mg base CX0 k f fd ps sp
/-- what calling an instance keeps; it may raise -/
def KmeX (P : Program) (w : World) (K : PySem.W.Frag) (mg : Str → Option Value) (base : Heap) (C : Addr) (k : Nat) (ps ks : List Str) (sp : Sp) : Prop :=
  ∃ f fd, CallM K C f ∧ Binds K fd ps [] ∧ KwI fd ps ks ∧ FnOk P w K mg base (L2.CX P w) k f fd ps sp
end
section
variable {X : Cx} {k j : Nat} {ps ks : List Str} {sp : Sp} {m x : Str} {C : Addr} {o e : Expr} {es : List Expr} {kws : List Keyword} {to tf : TE} {ta : TA} {apos pos p : Pos} {E : XK}
theorem pe_kme {pl : Sem Bool} (F : Kme X.prog X.w X.K X.mg X.base C k m ps ks sp) (c : Cls X.K C) (hr : Room j X.A) (he : PE X o to) (ha : PA X (e :: es) ta)
    (hj : k ≤ j := by decide)
    (hst : starEach (e :: es) X.env = (false, eval e X.env) :: starEach es X.env := by rfl) (hpl : (backTo pos (starEach es X.env)).any (·.1) = false := by rfl)
    (ht : eval (.Call (.Attribute o m apos) (e :: es) [] pos) X.env = (do
      let ov ← eval o X.env
      standAt apos.atName
      let (f, first) ← holding [ov] (getMethod ov m pl)
      callWith pos f first (backTo pos (starEach (e :: es) X.env)) (backToKw pos (keywordEach [] X.env))) := by rfl)
    (hx : Passes CX0 X E0 := by exact pass0) :
    PE X (.Call (.Attribute o m apos) (e :: es) [] pos) (tMeth C m sp [] E0 to ta) := by
  obtain ⟨f, fd, M, b, _, F⟩ := F
  exact pe_meth he c M F (hr.mono hj) b .nil hx ha hst hpl ht
theorem pe_kmeK {pl : Sem Bool} (F : Kme X.prog X.w X.K X.mg X.base C k m ps ks sp) (c : Cls X.K C) (hr : Room j X.A) (he : PE X o to) (hkw : PK X kws ta)
    (hl : ∀ vs H Q E, sp vs H Q E → vs.length = ks.length + 1) (hj : k ≤ j := by decide)
    (hks : (backToKw pos (keywordEach kws X.env)).filterMap (·.1) = ks := by rfl)
    (hall : (backToKw pos (keywordEach kws X.env)).all (·.1.isSome) = true := by rfl)
    (hpl : ((backTo pos (starEach [] X.env)).any (·.1) || (backToKw pos (keywordEach kws X.env)).any (·.1.isNone)) = false := by rfl)
    (ht : eval (.Call (.Attribute o m apos) [] kws pos) X.env = (do
      let ov ← eval o X.env
      standAt apos.atName
      let (f, first) ← holding [ov] (getMethod ov m pl)
      callWith pos f first (backTo pos (starEach [] X.env)) (backToKw pos (keywordEach kws X.env))) := by rfl)
    (hx : Passes CX0 X E0 := by exact pass0) :
    PE X (.Call (.Attribute o m apos) [] kws pos) (tMeth C m sp [] E0 to ta) := by
  obtain ⟨f, fd, M, _, b, F⟩ := F
  exact pe_methKw he c M F (hr.mono hj) b hx hl hkw hks hall hpl ht
theorem pe_kmeX (F : KmeX X.prog X.w X.K X.mg X.base C k ps ks sp) (hr : Room j X.A) (hx : Passes (L2.CX X.prog X.w) X E)
    (he : PE X (.Name x p) tf) (ha : PA X (e :: es) ta) (hj : k ≤ j := by decide)
    (hst : starEach (e :: es) X.env = (false, eval e X.env) :: starEach es X.env := by rfl)
    (hpl : (backTo pos (starEach es X.env)).any (·.1) = false := by rfl) :
    PE X (.Call (.Name x p) (e :: es) [] pos) (tInst C sp E tf ta) := by
  obtain ⟨f, fd, M, b, _, F⟩ := F
  exact pe_inst M F (hr.mono hj) b hx he ha hst hpl
theorem pe_kmeXK (F : KmeX X.prog X.w X.K X.mg X.base C k ps ks sp) (hr : Room j X.A) (hx : Passes (L2.CX X.prog X.w) X E)
    (hl : ∀ vs H Q E, sp vs H Q E → vs.length = ks.length + 1)
    (he : PE X (.Name x p) tf) (hkw : PK X kws ta) (hj : k ≤ j := by decide)
    (hks : (backToKw pos (keywordEach kws X.env)).filterMap (·.1) = ks := by rfl)
    (hall : (backToKw pos (keywordEach kws X.env)).all (·.1.isSome) = true := by rfl)
    (hpl : ((backTo pos (starEach [] X.env)).any (·.1) || (backToKw pos (keywordEach kws X.env)).any (·.1.isNone)) = false := by rfl) :
    PE X (.Call (.Name x p) [] kws pos) (tInst C sp E tf ta) := by
  obtain ⟨f, fd, M, _, b, F⟩ := F
  exact pe_instK M F (hr.mono hj) b hx hl he hkw hks hall hpl
end
end L2

/-! own rules 25: a text some times -/
namespace L2
open PySem PySem.Spec PyProof.Rows
def repS (z : Str) (n : Nat) : Str := ⟨(List.replicate n z.cps).foldl (· ++ ·) #[]⟩
theorem repS_one (c n : Nat) : (repS ⟨#[c]⟩ n).cps.toList = List.replicate n c := by
  have h : ∀ (n : Nat) (acc : Array Nat), ((List.replicate n (#[c] : Array Nat)).foldl (· ++ ·) acc).toList = acc.toList ++ List.replicate n c := by
    intro n
    induction n with
    | zero => intro acc; simp
    | succ n ih =>
      intro acc
      rw [List.replicate_succ, List.foldl_cons, ih]
      simp [List.replicate_succ]
  have := h n #[]
  simpa [repS] using this
def rRepS : R2 := fun x y H Q => ∃ (z : Str) (n : Nat), x = .str z ∧ y = .int (n : Nat) ∧ 2 ≤ n ∧ n ≤ 1000000 ∧ 0 < z.length ∧ z.length ≤ 1000 ∧ z.length * n ≤ 1000000 ∧ Q (.str (repS z n)) H
theorem op_repS {X : Cx} : OpR X (binaryOp .Mult) rRepS := by
  intro pins s σ H x y v u Q I rx ry h
  obtain ⟨z, n, rfl, rfl, h1, h2, h3, h4, h5, q⟩ := h
  obtain ⟨t, rfl⟩ := rx
  obtain ⟨t', rfl⟩ := ry
  have e1 : (((n : Int) == 1) || z.length == 0) = false := by
    rw [Bool.or_eq_false_iff]
    constructor
    · simp
      omega
    · simp
      omega
  have tl : Builtin.Str.tooLong (z.length * n) = false := by
    unfold Builtin.Str.tooLong
    exact decide_eq_false (Nat.not_lt.mpr (Nat.le_trans h5 (by decide)))
  refine P.mul_str ?_ (fun _ _ => ?_) (fun _ _ => ?_) ?_
  · rw [decide_eq_false (by omega), decide_eq_false (by omega)]
    rfl
  · have : ((2 : Int) ^ 63 - 1) / n ≥ 1000 := by
      refine (Int.le_ediv_iff_mul_le (by omega)).mpr ?_
      omega
    omega
  · rw [Int.toNat_natCast]
    exact tl
  · rw [if_neg (by omega), e1]
    rw [if_neg (by decide), Int.toNat_natCast]
    refine ⟨?_, .str (repS z n), H, I.tok _, ⟨_, rfl⟩, q⟩
    have hl : ∀ (n : Nat) (acc : Array Nat), ((List.replicate n z.cps).foldl (· ++ ·) acc).size = acc.size + z.cps.size * n := by
      intro n
      induction n with
      | zero => intro acc; simp
      | succ n ih =>
        intro acc
        rw [List.replicate_succ, List.foldl_cons, ih, Array.size_append, Nat.mul_succ]
        omega
    have := hl n #[]
    have e2 : (#[] : Array Nat).size = 0 := rfl
    have h5' : z.cps.size * n ≤ 1000000 := h5
    show ((List.replicate n z.cps).foldl (· ++ ·) #[]).size ≤ sizeLine
    exact Nat.le_trans (show _ ≤ 1000000 by omega) (by decide)
end L2

/-! own rules 26: {(..): v}, one entry whose key is a tuple -/
namespace L2
open PySem PySem.Spec PyProof.Rows
/-- {k: v}, k a tuple; the new dict stands empty meanwhile -/
def tDispT1 (tk tv : TE) : TE := fun σ H Q => ∀ p, H p = none → tk σ (upd H p (.dT [])) fun x H1 => tv σ H1 fun y H2 => ∃ b k, x = .ref b ∧
  H2 b = some (.tup (k.map kV)) ∧ H2 p = some (.dT []) ∧ Q (.ref p) (upd H2 p (.dT [(k, y)]))
theorem pe_dispT1 {X : Cx} {pos : Pos} {k v : Expr} {tk tv : TE} (hu : X.A.units + 2 < cLine) (hk : PE X k tk) (hv : PE X v tv) : PE X (.Dict [some k] [v] pos) (tDispT1 tk tv) := by
  refine ⟨fun pins s σ H Q I q => ?_⟩
  have hn := I.hok.fresh (Nat.le_refl s.heap.objs.size)
  have I1 := I.laid (a := s.heap.objs.size) (o := .dT []) (h' := s.heap.push { cls := .type "dict", data := .dict #[] }) (t' := s.toks) (fun _ _ q => Heap.get?_push_of_some _ q) (Nat.le_refl _) (dt_empty s.heap I.big)
  rw [arm_eval_Dict, zip_pairTrees [some k] [v] X.env pos rfl rfl, dictDisplay_pairs _ (by
    intro z
    have := pairTrees_length [some k] [v] X.env pos rfl rfl
    rw [z] at this
    cases this) (by
    rw [pairTrees_length [some k] [v] X.env pos rfl rfl]
    show 1 < 17
    decide)]
  refine wpAny_bind (wpAny_standAt (wpAny_bind (wpAny_subDictH (knd := tupleKind (mixKind X.prog X.w)) (Q := fun d s' => wpAny (model X.prog X.w) X.A (pure (Value.ref d)) (EP X pins σ Q) X.xe s')
    (show X.A.units < cLine from Nat.lt_of_le_of_lt (Nat.le_add_right _ _) hu) (by rw [pairTrees_length [some k] [v] X.env pos rfl rfl]; show 1 ≤ 15; decide) ?_)))
  refine pairTrees_cons_walk (thn (hk.run pins _ σ _ _ I1 (q _ hn)) fun u s1 ⟨x, H1, I2, rx, q1⟩ => thn (hv.run pins s1 σ H1 _ I2 q1) fun w2 s2 ⟨y, H2, I3, ry, q2⟩ => pairTrees_nil_walk ?_)
  obtain ⟨b, ks, rfl, eb, eD, q3⟩ := q2
  obtain rfl : u = Value.ref b := rx
  obtain ⟨zl, notMods, xs, kt, dd⟩ := dt_of I3.hok eD
  cases kt
  refine ⟨[(ks, b, w2)], ⟨rfl, rfl, key_of I3.hok eb, trivial⟩, dd, fun h' tk' dd' hs => wpAny_pure ⟨.ref _, _, ?_, rfl, q3⟩⟩
  have he : ∃ q, h'.get? s.heap.objs.size = some q := let ⟨q, _, _, hq, _⟩ := dd'; ⟨q, hq⟩
  obtain ⟨o, ents, ep, at_, c2, c3, c4, _, c5⟩ := dd'
  refine d_write I3 (by rw [eD]; trivial) hs he ⟨(by show 1 ≤ sizeLine; decide), notMods, _, ((KT.put (kvs := []) .nil ks eb ry).keeps fun c ys ec => ?_), o, ents, ep, at_, c2, c3, c4, c5⟩
  exact upd_oth (fun z => by rw [z, eD] at ec; cases ec) ec
end L2

/-! own rules 27: the end of a law whose defs make lambdas and show data: tables of code objects, guards known -/
namespace L2
open PySem PySem.Spec PyProof.Rows
def noTab : Obj := { cls := .none, data := .fields #[] }
/-- what is tracked ahead of the law's call: the script, if it is new, and the tables -/
structure Ahead (P : Program) (w : World) (K : PySem.W.Frag) (h : Heap) (a : Addr) (xs : List V) (Ts : List Addr) (H : Hp) : Prop where
  tab : ∀ T ∈ Ts, H T = some (.tbl #[])
  few : ∀ b u, H b = some u → (b ∈ Ts ∧ u = .tbl #[]) ∨ (b = a ∧ ∃ o, u = .frz o (.lst xs))
  ok : HOk P w H h
  out : (H a).isSome = true → K.lookup a = none
  sq : SqL K H a xs
section
variable {P : Program} {w : World} {K : PySem.W.Frag} {h : Heap} {a : Addr} {xs : List V} {us : List Value} {Ts : List Addr} {H : Hp}
/-- only a list or a table is tracked -/
theorem Ahead.untracked (A : Ahead P w K h a xs Ts H) (hT : ∀ T ∈ Ts, h.get? T = some noTab) (ha : h.get? a = some { cls := .type "list", data := .seq us.toArray }) {b : Addr} {o : Obj}
    (e : h.get? b = some o) (n1 : ∀ vs n, o.data ≠ .seq vs n) (n2 : o.data ≠ .fields #[]) : H b = none := by
  cases q : H b with
  | none => rfl
  | some u =>
    rcases A.few b u q with ⟨hb, _⟩ | ⟨rfl, _⟩
    · have := (hT b hb).symm.trans e
      obtain rfl := Option.some.inj this
      exact absurd rfl n2
    · have := ha.symm.trans e
      obtain rfl := Option.some.inj this
      exact absurd rfl (n1 _ _)
theorem ahead_ex (KX : K.In h) (hT : ∀ T ∈ Ts, h.get? T = some noTab) (ha : h.get? a = some { cls := .type "list", data := .seq us.toArray }) (rv : Vals xs us) (hl : xs.length ≤ sizeLine) : ∃ H, Ahead P w K h a xs Ts H := by
  have naT : a ∉ Ts := fun z => by
    have := congrArg (Option.map Obj.data) ((hT a z).symm.trans ha)
    cases this
  have tOk : ∀ (H : Hp) {b : Addr}, b ∈ Ts → ObjOk P w H h b (.tbl #[]) := fun H b hb => hT b hb
  have lenV : xs.length = us.length := rv.length
  cases hk : K.lookup a with
  | some o =>
    have e := KX a o hk
    obtain rfl := Option.some.inj (ha.symm.trans e)
    refine ⟨fun b => if b ∈ Ts then some (.tbl #[]) else none, fun T hT' => if_pos hT', fun b u z => ?_, fun b u z => ?_, fun z => ?_, ?_⟩
    · by_cases hb : b ∈ Ts
      · exact .inl ⟨hb, (Option.some.inj ((if_pos hb).symm.trans z)).symm⟩
      · cases (if_neg hb).symm.trans z
    · by_cases hb : b ∈ Ts
      · obtain rfl := Option.some.inj ((if_pos hb).symm.trans z)
        exact tOk _ hb
      · cases (if_neg hb).symm.trans z
    · have : (if a ∈ Ts then some (HO.tbl #[]) else none) = none := if_neg naT
      rw [this] at z
      cases z
    · refine .inr ⟨_, us.toArray, _, hk, rfl, rfl, rfl, ?_, ?_⟩
      · rw [List.size_toArray, ← lenV]
        exact hl
      · simpa using rv
  | none =>
    refine ⟨fun b => if b = a then some (.frz { cls := .type "list", data := .seq us.toArray } (.lst xs)) else if b ∈ Ts then some (.tbl #[]) else none,
      fun T hT' => (if_neg (show ¬ T = a from fun z => naT (by rw [← z]; exact hT'))).trans (if_pos hT'), fun b u z => ?_, fun b u z => ?_, fun _ => hk, .inl (.inr ⟨_, if_pos rfl⟩)⟩
    · by_cases hb : b = a
      · exact .inr ⟨hb, _, (Option.some.inj ((if_pos hb).symm.trans z)).symm⟩
      · have z := (if_neg hb).symm.trans z
        by_cases hb2 : b ∈ Ts
        · exact .inl ⟨hb2, (Option.some.inj ((if_pos hb2).symm.trans z)).symm⟩
        · cases (if_neg hb2).symm.trans z
    · by_cases hb : b = a
      · obtain rfl := Option.some.inj ((if_pos hb).symm.trans z)
        subst hb
        exact ⟨ha, hl, us, _, rv, ha⟩
      · have z := (if_neg hb).symm.trans z
        by_cases hb2 : b ∈ Ts
        · obtain rfl := Option.some.inj ((if_pos hb2).symm.trans z)
          exact tOk _ hb2
        · cases (if_neg hb2).symm.trans z
end
/-- the law's call, its guards known, with tables -/
theorem law_callTG {P : Program} {w : World} {K : PySem.W.Frag} {mg mb : Str → Option Value} {k : Nat} {fa a : Addr} {cs : List (Addr × Addr)}
    {fd : FuncData} {x : Str} {sp : Sp} {s1 : Shared} {vs : List Value} {ns : List Int}
    (KX : K.In s1.heap) (hns : s1.heap.Ns mainGlobals mg) (hb : s1.heap.Ns builtinsNs mb)
    (hbb : ∀ y : Str, y ≠ "__name__" → mb y = bootBuiltins y) (hlim : s1.heap.NoLimit) (hg : s1.gens = #[])
    (hT : ∀ p ∈ cs, s1.heap.get? p.2 = some noTab) (nT : ∀ p ∈ cs, K.lookup p.2 = none) (hC : ∀ p ∈ cs, PySem.W.CodeHd s1.heap p.1 p.2)
    (hbm : ∃ bm ob, mg "__builtins__" = some (.ref bm) ∧ bm ≠ builtinsNs ∧ s1.heap.get? bm = some ob ∧ ob.cls = .type "module" ∧ ob.dict = some builtinsNs ∧ ob.data = .plain)
    (ha : s1.heap.get? a = some { cls := .type "list", data := .seq vs.toArray }) (hi : IntsAre vs ns)
    (hl : ns.length ≤ sizeLine) (hr : Room k callerA)
    (F : ∀ base : Heap, K.In base → base.Ns mainGlobals mg → (∀ p ∈ cs, LamX.TabB base mg p.1 p.2) → FnG P w K mg base CX0 k fa fd [x] sp)
    (hbind : ∀ (s : Shared) (u : Value), BindsTo s fd ⟨[u], []⟩ [(x, u)])
    (hsp : ∀ H : Hp, (∀ p ∈ cs, H p.2 = some (.tbl #[])) → SqL K H a (ns.map V.int) → sp [.ref a] H (fun v _ => v = .bl true) E0) :
    codeAny (model P w) callerA (.call (.ref fa) ⟨[.ref a], []⟩)
      (fun r s' => r = .ok (.ret (.bool true)) ∧ OldK s1.heap s'.heap ∧ s'.os = s1.os ∧ AllBare s'.gens) s1 := by
  have hTs : ∀ T ∈ cs.map (·.2), s1.heap.get? T = some noTab := fun T h => by
    obtain ⟨p, hp, rfl⟩ := List.mem_map.mp h
    exact hT p hp
  have mT : ∀ {p : Addr × Addr}, p ∈ cs → p.2 ∈ cs.map (·.2) := fun hp => List.mem_map.mpr ⟨_, hp, rfl⟩
  obtain ⟨H, A⟩ := ahead_ex (P := P) (w := w) KX hTs ha (vals_ints hi) (by rw [List.length_map]; exact hl)
  have un0 : ∀ {b : Addr} {o : Obj}, s1.heap.get? b = some o → (∀ us n, o.data ≠ .seq us n) → o.data ≠ .fields #[] → (hidT s1.heap H).get? b = some o :=
    fun e n1 n2 => hidT_get e (A.untracked hTs ha e n1 n2)
  have nsK : ∀ {b : Addr} {m : Str → Option Value}, s1.heap.Ns b m → (hidT s1.heap H).Ns b m := by
    rintro b m ⟨o, es, ep, e, d, r⟩
    exact ⟨o, es, ep, un0 e (fun _ _ z => by rw [d] at z; cases z) (fun z => by rw [d] at z; cases z), d, r⟩
  have KB : K.In (hidT s1.heap H) := fun b o e => by
    refine hidT_get (KX b o e) ?_
    cases q : H b with
    | none => rfl
    | some u =>
      rcases A.few b u q with ⟨hb, _⟩ | ⟨rfl, _⟩
      · obtain ⟨p, hp, rfl⟩ := List.mem_map.mp hb
        rw [nT p hp] at e
        cases e
      · rw [A.out (by rw [q]; rfl)] at e
        cases e
  have hM : Mod K mg (hidT s1.heap H) := by
    obtain ⟨mc, h1, h2⟩ := hlim
    exact ⟨KB, nsK hns, ⟨mb, nsK hb, hbb⟩, mc, nsK h1, h2⟩
  have notG : ∀ {b : Addr} {o : Obj}, s1.heap.get? b = some o → (∀ es ep, o.data ≠ .dict es ep) → b ≠ mainGlobals := fun e n z => by
    obtain ⟨o', es, ep, e', d, _⟩ := hns
    rw [z, e'] at e
    obtain rfl := Option.some.inj e
    exact n _ _ d
  have TB : ∀ p ∈ cs, LamX.TabB (hidT s1.heap H) mg p.1 p.2 := fun p hp => by
    refine ⟨?_, ?_, (notG (hT p hp) fun _ _ z => by cases z).symm⟩
    · obtain ⟨o, us, f1, f2, f3, f4, f5, f6, f7, e1, r1, r2, r3, rest⟩ := hC p hp
      refine ⟨o, us, f1, f2, f3, f4, f5, f6, f7, un0 e1 (fun _ _ z => by rw [r2] at z; cases z) (fun z => ?_), r1, r2, r3, rest⟩
      rw [r2] at z
      cases z
      simp at r3
    · obtain ⟨bm, ob, b1, b2, b3, b4, b5, b6⟩ := hbm
      have nP : bm ≠ p.2 := fun z => by
        rw [z, hT p hp] at b3
        obtain rfl := Option.some.inj b3
        cases b6
      exact ⟨bm, ob, b1, b2, notG b3 (fun _ _ z => by rw [b6] at z; cases z), nP, un0 b3 (fun _ _ z => by rw [b6] at z; cases z) (fun z => by rw [b6] at z; cases z), b4, b5, b6⟩
  have e0 : Env0 P w K mg (hidT s1.heap H) callerA [] s1 H :=
    ⟨rfl, hM, fun b o e => of_hidT e, Nat.le_of_eq (hidT_size _ _), trivial, fun b hb => absurd (show b ∈ ([] : List Addr) from hb) (by simp), A.ok, .of_eq hg⟩
  refine codeAny_mono ((F _ KB (nsK hns) TB).run callerA [] s1 H ⟨[.ref a], []⟩ [.ref a] [.ref a] _ _ rfl hr e0
    (hbind s1 (.ref a)) (.cons rfl .nil) (hsp H (fun p hp => A.tab _ (mT hp)) A.sq)) fun r s' hq => ?_
  match r, hq with
  | .error e, hq => exact hq.elim
  | .ok .next, hq => exact False.elim hq
  | .ok .brk, hq => exact False.elim hq
  | .ok .cont, hq => exact False.elim hq
  | .ok (.ret u), hq =>
    obtain ⟨v, H', os, bare, un, hok', r', q⟩ := hq
    obtain rfl : v = .bl true := q
    obtain rfl : u = Value.bool true := r'
    have kept : ∀ b o, s1.heap.get? b = some o → s'.heap.get? b = some o ∨ (b ∈ cs.map (·.2) ∧ ∃ more : Array Value, s'.heap.get? b = some { cls := .none, data := .fields more }) := fun b o e => by
      cases q : H b with
      | none => exact .inl (un.keep b o e q (fun z => absurd (show b ∈ ([] : List Addr) from z) (by simp)) (by simp))
      | some u =>
        rcases A.few b u q with ⟨hb, rfl⟩ | ⟨_, ob, rfl⟩
        · obtain ⟨more, z⟩ := un.tbls b #[] q
          exact .inr ⟨hb, _, hok' b _ z⟩
        · obtain ⟨e1, _⟩ := A.ok b _ q
          obtain ⟨e2, _⟩ := hok' b _ (un.frzs b ob _ q)
          obtain rfl := Option.some.inj (e.symm.trans e1)
          exact .inl e2
    refine ⟨rfl, ⟨fun b o e => ?_, fun b o e => ?_⟩, os, bare⟩
    · rcases kept b o e with z | ⟨hb, more, z⟩
      · exact .inl z
      · obtain ⟨p, hp, rfl⟩ := List.mem_map.mp hb
        obtain rfl := Option.some.inj (e.symm.trans (hT p hp))
        exact .inr (.inl ⟨((hC p hp).tab (hT p hp)).isCodeTable, rfl, #[], more, rfl, by rw [Array.empty_append]; exact z⟩)
    · rcases kept b o e with z | ⟨_, more, z⟩
      · exact ⟨_, z⟩
      · exact ⟨_, z⟩
/-- the def under the name x: its code object is at c, with the table at T, still empty -/
def TabOf (mg : Str → Option Value) (h : Heap) (x : Str) (c T : Addr) : Prop := ∃ f o fd, mg x = some (.ref f) ∧ h.get? f = some o ∧ o.data = .func fd ∧ fd.code = .ref c ∧ PySem.W.CodeHd h c T ∧ h.get? T = some noTab
/-- no table is among the written objects -/
def tabless (K : PySem.W.Frag) : Bool := K.all fun p => match p.2 with
  | ⟨.none, _, .fields vs, _⟩ => !(vs.size == 0)
  | _ => true
theorem lookup_mem {K : PySem.W.Frag} {b : Addr} {o : Obj} : K.lookup b = some o → (b, o) ∈ K := by
  induction K with
  | nil => intro h; cases h
  | cons p r ih =>
    obtain ⟨c, x⟩ := p
    intro h
    simp only [List.lookup] at h
    split at h
    · rename_i q
      cases h
      rw [beq_iff_eq.mp q]
      exact List.mem_cons_self
    · exact List.mem_cons_of_mem _ (ih h)
theorem tabless_none {K : PySem.W.Frag} {h : Heap} {T : Addr} (KX : K.In h) (t : tabless K = true) (e : h.get? T = some noTab) : K.lookup T = none := by
  cases q : K.lookup T with
  | none => rfl
  | some o =>
    have e1 := KX T o q
    obtain rfl := Option.some.inj (e.symm.trans e1)
    have := List.all_eq_true.mp t _ (lookup_mem q)
    cases this
theorem walk_ofTG {l : PySem.W.OpenLaw} {n k : Nat} {q : Program} {loose : List Str}
    {XP : (Str → Option Value) → Heap → Prop} {YP : World → Heap → Prop} {d : DefRec} {K : Params → PySem.W.Frag}
    {x : Str} (names : List Str) (hn : l.most = some n) (hn2 : n ≤ sizeLine) (hdf : d.params.defaults = [])
    (hrec : (names.all fun y => (recsOf q).any fun e => e.name == y) = true)
    (hr : Room k callerA) (hY : ∀ (w : World) (h : Heap), YP w h → (K w.params).In h)
    (F : ∀ (w : World) (mg : Str → Option Value) (fa : Addr) (h : Heap), (K w.params).In h → h.Ns mainGlobals mg → mg d.name = some (.ref fa) → (∀ y ∈ names, ∃ c T, TabOf mg h y c T) →
      ∃ (fd : FuncData) (cs : List (Addr × Addr)) (sp : Sp), (∀ p ∈ cs, ∃ y, TabOf mg h y p.1 p.2) ∧ (∀ p ∈ cs, (K w.params).lookup p.2 = none) ∧
        (∀ (s : Shared) (u : Value), BindsTo s fd ⟨[u], []⟩ [(x, u)]) ∧
        (∀ (H : Hp) (a : Addr) (ns : List Int), ns.length ≤ n → (∀ p ∈ cs, H p.2 = some (.tbl #[])) → SqL (K w.params) H a (ns.map V.int) → sp [.ref a] H (fun v _ => v = .bl true) E0) ∧
        ∀ base : Heap, (K w.params).In base → base.Ns mainGlobals mg → (∀ p ∈ cs, LamX.TabB base mg p.1 p.2) → FnG l.prog w (K w.params) mg base CX0 k fa fd [x] sp) :
    PySem.W.WalkO q loose XP YP l.row.toRowW d [] (fun f vs => PySem.call f vs) := by
  refine Att.attach_call hn hdf fun w s0 s1 mg mb fa o pm cd doc a vs ns G Y ho hd hcd hmg hobj hints hlen hg => ?_
  have KX := hY w _ Y
  have tabs : ∀ y ∈ names, ∃ c T, TabOf mg s1.heap y c T := fun y hy => by
    obtain ⟨dL, hm, e⟩ := List.any_eq_true.mp (List.all_eq_true.mp hrec y hy)
    obtain ⟨f, o', fd', c, T, h1, h2, h3, h4, h5, h6⟩ := G.T.tab dL hm
    rw [beq_iff_eq.mp e] at h1
    exact ⟨c, T, f, o', fd', h1, h2, h3, h4, .of h5 h6, h6.2⟩
  obtain ⟨fd, cs, sp, h1, h2, h3, h4, h5⟩ := F w mg fa _ KX G.T.g hmg tabs
  refine law_callTG KX G.T.g G.T.b G.T.builtins G.T.nolimit hg (fun p hp => ?_) h2 (fun p hp => ?_) G.T.bmain hobj hints (Nat.le_trans hlen hn2) hr h5 h3 fun H hH hS => h4 H a ns hlen hH hS
  · obtain ⟨_, _, _, _, _, _, _, _, _, e⟩ := h1 p hp
    exact e
  · obtain ⟨_, _, _, _, _, _, _, _, e, _⟩ := h1 p hp
    exact e
end L2

/-! own rules 28: what a law's end asks of the written part, as checks; defs with lambdas -/
namespace L2
open PySem PySem.Spec PyProof.Rows
/-- an error class with one __init__, made over ValueError -/
def oexB (K : PySem.W.Frag) (C : Addr) : Bool := match K.lookup C with
  | some ⟨.type t, _, .cls cd, sl⟩ => decide (t = "type") && (cd.hasDict && (!cd.hasDel && (match cd.mro, sl.toList with
    | .ref C1 :: bm, [_, _, _, _, some (.builtin n), _] => decide (C1 = C) && (decide (n = "ValueError.__new__") &&
        PySem.HandSPX.refsVE bm)
    | _, _ => false)))
  | _ => false
def xclB (K : PySem.W.Frag) (C : Addr) : Bool :=
  decide (PySem.W.subIn K (.ref C) (.type "BaseException") = some true) &&
  (decide (PySem.W.findIn K (.ref C) "__getattribute__" = some (some (.builtin "BaseException.__getattribute__"))) &&
  (decide (PySem.W.findIn K (.ref C) "__getattr__" = some none) && (PySem.W.hasDictIn K C &&
  ((PySem.W.clsIn K C).isSome &&
  (decide (PySem.W.findIn K (.ref C) "__class__" = some (some (.builtin "object.__class__"))) &&
  (decide (PySem.W.specialIn K (.builtin "object.__class__") "__get__" = some (some (.builtin "getset_descriptor.__get__"))) &&
  (decide (PySem.W.takesIn K (.builtin "object.__class__") = some true) &&
  decide (PySem.W.mroIn K C (.type "object") = some true))))))))
def restB (K : PySem.W.Frag) (C : Addr) : Bool :=
  decide (PySem.W.findIn K (.ref C) "__setattr__" = some (some (.builtin "object.__setattr__"))) &&
  (decide (PySem.W.typeIn K (.ref C) = some (.type "type")) && PySem.W.keepIn K (.ref C))
section
variable {K : PySem.W.Frag} {mg : Str → Option Value} {h : Heap} {C : Addr}
theorem xcl_of (b : xclB K C = true) : XCl K C := by
  unfold xclB at b
  simp only [Bool.and_eq_true, decide_eq_true_eq] at b
  obtain ⟨b2, b5, b6, b7, b8, b9, b10, b11, b12⟩ := b
  exact ⟨b5, b6, b2, b7, b8, b9, b10, b11, b12⟩
theorem oexC_of (a : oexB K C = true) (x : xclB K C = true) (b : restB K C = true) : OexC K C := by
  have x := xcl_of x
  unfold restB at b
  simp only [Bool.and_eq_true, decide_eq_true_eq] at b
  obtain ⟨b1, b3, b4⟩ := b
  refine ⟨?_, b1, x.ex, b3, b4⟩
  unfold oexB at a
  split at a
  · rename_i t dd cd sl ho
    simp only [Bool.and_eq_true, decide_eq_true_eq, Bool.not_eq_true'] at a
    obtain ⟨a1, a2, a3, a4⟩ := a
    split at a4
    · rename_i C1 bm k0 k1 k2 k3 n k5 hm hs
      simp only [Bool.and_eq_true, decide_eq_true_eq] at a4
      obtain ⟨a5, a6, a7⟩ := a4
      subst a1 a5 a6
      obtain ⟨nm, bs, mro, ns, qn, hd, sn, sub, ab, col, del⟩ := cd
      dsimp only at hm a2 a3
      subst hm a2 a3
      obtain ⟨ls⟩ := sl
      dsimp only at hs
      subst hs
      exact ⟨nm, qn, ns, bs, bm, sn, sub, ab, col, dd, k0, k1, k2, k3, k5, ho, a7⟩
    · cases a4
  · cases a
/-- an error class under its name, with such fields -/
def errB (K : PySem.W.Frag) (x : Str) (fs : List Str) : Bool := match PySem.W.nsIn K mainGlobals x with
  | some (some (.ref C)) => oexB K C && (xclB K C && (restB K C && fs.all fun f => decide (PySem.W.findIn K (.ref C) f = some none)))
  | _ => false
/-- an error class, told apart -/
def exB (K : PySem.W.Frag) (fs : List Str) (x : Str) : Bool := match PySem.W.nsIn K mainGlobals x with
  | some (some (.ref C)) => xclB K C && fs.all fun f => decide (PySem.W.findIn K (.ref C) f = some none)
  | _ => false
theorem errK_of {x : Str} {fs : List Str} (X : K.In h) (G : h.Ns mainGlobals mg) (c : errB K x fs = true) : ErrK K mg x fs := by
  unfold errB at c
  split at c
  · rename_i C hC
    simp only [Bool.and_eq_true, List.all_eq_true, decide_eq_true_eq] at c
    obtain ⟨c1, c2, c3, c4⟩ := c
    have e := PySem.W.mg_of X G hC
    have ea := adr_of e
    exact ⟨by rw [ea]; exact e, by rw [ea]; exact oexC_of c1 c2 c3, by rw [ea]; exact xcl_of c2, by rw [ea]; exact c4⟩
  · cases c
theorem ex_of {x : Str} {fs : List Str} (X : K.In h) (G : h.Ns mainGlobals mg) (c : exB K fs x = true) :
    mg x = some (.ref (adr mg x)) ∧ XCl K (adr mg x) ∧ ∀ f ∈ fs, PySem.W.findIn K (.ref (adr mg x)) f = some none := by
  unfold exB at c
  split at c
  · rename_i C hC
    simp only [Bool.and_eq_true, List.all_eq_true, decide_eq_true_eq] at c
    have e := PySem.W.mg_of X G hC
    have ea := adr_of e
    rw [ea]
    exact ⟨e, xcl_of c.1, c.2⟩
  · cases c
def kitNB (K : PySem.W.Frag) (x : Str) (c : Value) (b : Bool) : Bool := match PySem.W.nsIn K mainGlobals x with
  | some (some (.ref C)) => decide (PySem.W.kitOne K (.ref C) c = some b)
  | _ => false
def kitNB2 (K : PySem.W.Frag) (x y : Str) (b : Bool) : Bool := match PySem.W.nsIn K mainGlobals y with
  | some (some (.ref C)) => kitNB K x (.ref C) b
  | _ => false
def exmB2 (K : PySem.W.Frag) (x y : Str) (b : Bool) : Bool := match PySem.W.nsIn K mainGlobals y with
  | some (some (.ref C)) => (match PySem.W.nsIn K mainGlobals x with
    | some (some (.ref C2)) => decide (PySem.W.exmOne K (.ref C2) (.ref C) = some b)
    | _ => false)
  | _ => false
theorem kit_of1 {x : Str} {c : Value} {b : Bool} (X : K.In h) (G : h.Ns mainGlobals mg) (e : kitNB K x c b = true) :
    PySem.W.kitOne K (.ref (adr mg x)) c = some b := by
  unfold kitNB at e
  split at e
  · rename_i C hC
    rw [adr_of (PySem.W.mg_of X G hC)]
    simpa using e
  · cases e
theorem kit_of2 {x y : Str} {b : Bool} (X : K.In h) (G : h.Ns mainGlobals mg) (e : kitNB2 K x y b = true) :
    PySem.W.kitOne K (.ref (adr mg x)) (.ref (adr mg y)) = some b := by
  unfold kitNB2 at e
  split at e
  · rename_i C hC
    rw [adr_of (PySem.W.mg_of X G hC)]
    exact kit_of1 X G e
  · cases e
theorem exm_of2 {x y : Str} {b : Bool} (X : K.In h) (G : h.Ns mainGlobals mg) (e : exmB2 K x y b = true) :
    PySem.W.exmOne K (.ref (adr mg x)) (.ref (adr mg y)) = some b := by
  unfold exmB2 at e
  split at e
  · rename_i C hC
    split at e
    · rename_i C2 hC2
      rw [adr_of (PySem.W.mg_of X G hC), adr_of (PySem.W.mg_of X G hC2)]
      simpa using e
    · cases e
  · cases e
/-- an own class with attributes alone, some of them named -/
def ownB (K : PySem.W.Frag) (fs : List Str) (C : Addr) : Bool :=
  PySem.W.plainGet K C Str.empty && (PySem.W.hasDictIn K C && (PySem.W.plainOver K C &&
  (decide (PySem.W.findIn K (.ref C) "__setattr__" = some (some (.builtin "object.__setattr__"))) &&
  ((fs.all fun f => decide (PySem.W.findIn K (.ref C) f = some none)) && (PySem.W.makesIn K C && PySem.W.keepIn K (.ref C))))))
theorem own_of {fs : List Str} (c : ownB K fs C = true) : Cls K C ∧ (∀ f ∈ fs, NoAttr K C f) ∧ PySem.W.makesIn K C = true ∧ PySem.W.keepIn K (.ref C) = true := by
  unfold ownB at c
  simp only [Bool.and_eq_true, List.all_eq_true, decide_eq_true_eq] at c
  obtain ⟨c1, c2, c3, c4, c5, c6, c7⟩ := c
  exact ⟨⟨c1, c2, c3, c4⟩, c5, c6, c7⟩
/-- a def of a class, no default -/
theorem mdef {x q : Str} {st : Stmt} {f : Addr} {od an : Option Addr} {sl : Array (Option Value)} {oc kV dc pm cd ct : Value}
    (l : K.lookup f = some ⟨oc, od, .func (PySem.W.fnOf x q (defArgs st) (defBody st) (defScope st) .none kV dc pm an cd ct), sl⟩)
    (c : PySem.W.codeIn K cd q = true) (k : PySem.W.keepIn K (.ref f) = true) :
    MD K x q st [] f (PySem.W.fnOf x q (defArgs st) (defBody st) (defScope st) .none kV dc pm an cd ct) :=
  ⟨⟨oc, od, .none, kV, dc, pm, an, cd, ct, sl, rfl, l, c, .inl ⟨rfl, rfl⟩, .inl rfl⟩, k⟩
/-- the code object of the def under x is the one whose table is told -/
theorem tab_code {x : Str} {st : Stmt} {f c T : Addr} {od an : Option Addr} {sl : Array (Option Value)} {oc kV dc pm cd ct : Value} (X : K.In h) (G : h.Ns mainGlobals mg)
    (a : PySem.W.nsIn K mainGlobals x = some (some (.ref f)))
    (l : K.lookup f = some ⟨oc, od, .func (PySem.W.fnOf x x (defArgs st) (defBody st) (defScope st) .none kV dc pm an cd ct), sl⟩) (t : TabOf mg h x c T) : cd = .ref c := by
  obtain ⟨f', o, fd, h1, h2, h3, h4, _⟩ := t
  obtain rfl : f = f' := Value.ref.inj (Option.some.inj ((PySem.W.mg_of X G a).symm.trans h1))
  obtain rfl := Option.some.inj ((X _ _ l).symm.trans h2)
  obtain rfl := Data.func.inj h3
  exact h4
theorem funC_mk {x : Str} {st : Stmt} {f c : Addr} {od an : Option Addr} {sl : Array (Option Value)} {oc kV dc pm cd ct : Value}
    (l : K.lookup f = some ⟨oc, od, .func (PySem.W.fnOf x x (defArgs st) (defBody st) (defScope st) .none kV dc pm an cd ct), sl⟩)
    (hc : PySem.W.codeIn K cd x = true) (k : PySem.W.keepIn K (.ref f) = true) (e : cd = .ref c) :
    FunC K x x st f (PySem.W.fnOf x x (defArgs st) (defBody st) (defScope st) .none kV dc pm an cd ct) (.ref c) := by
  subst e
  exact ⟨⟨oc, od, kV, dc, pm, an, ct, sl, rfl, l, hc⟩, k⟩
/-- where the table of the def under x stands, by the written part -/
def tabAt (K : PySem.W.Frag) (x : Str) : Option Addr := match PySem.W.nsIn K mainGlobals x with
  | some (some (.ref f)) => (match K.lookup f with
    | some ⟨_, _, .func fd, _⟩ => (match fd.code with
      | .ref c => (match K.lookup c with
        | some ⟨_, _, .fields vs, _⟩ => (match (vs[11]? : Option Value) with
          | some (.ref T) => some T
          | _ => none)
        | _ => none)
      | _ => none)
    | _ => none)
  | _ => none
theorem tabAt_is {x : Str} {c T T' : Addr} (X : K.In h) (G : h.Ns mainGlobals mg) (t : TabOf mg h x c T) (e : tabAt K x = some T') : T = T' := by
  obtain ⟨f', o, fd, h1, h2, h3, h4, ⟨o', us, _, _, _, _, _, _, _, g1, g2, g3, g4, _⟩, _⟩ := t
  unfold tabAt at e
  split at e
  · rename_i f hf
    obtain rfl : f = f' := Value.ref.inj (Option.some.inj ((PySem.W.mg_of X G hf).symm.trans h1))
    split at e
    · rename_i oc dd fd2 sl hl
      obtain rfl := Option.some.inj ((X _ _ hl).symm.trans h2)
      obtain rfl := Data.func.inj h3
      rw [h4] at e
      dsimp only at e
      split at e
      · rename_i oc2 dd2 vs sl2 hc
        obtain rfl := Option.some.inj ((X _ _ hc).symm.trans g1)
        obtain rfl := Data.fields.inj g3
        rw [g4] at e
        exact Option.some.inj e
      · cases e
    · cases e
  · cases e
end
end L2

/-! own rules 29: o[e], o of an own class -/
namespace L2
open PySem PySem.Spec PyProof.Rows
structure GetM (K : PySem.W.Frag) (C f : Addr) : Prop where
  at_ : PySem.W.findIn K (.ref C) "__getitem__" = some (some (.ref f))
  fn : PySem.W.fnIn K f = true
  isf : PySem.W.isFn K (.ref f) = true
def rOwnIx (C : Addr) (sp : Sp) (E : XK) : R2 := fun x y H Q => ∃ (a dx : Addr) (fs : List (Str × V)), x = .ref a ∧ H a = some (.ins C dx fs) ∧ sp [.ref a, y] H Q E
/-- what o[e] keeps; it may raise -/
def KgeX (P : Program) (w : World) (K : PySem.W.Frag) (mg : Str → Option Value) (base : Heap) (C : Addr) (k : Nat) (ps : List Str) (sp : Sp) : Prop :=
  ∃ f fd, GetM K C f ∧ Binds K fd ps [] ∧ FnOk P w K mg base (L2.CX P w) k f fd ps sp
section
variable {X : Cx} {k j : Nat} {ps : List Str} {sp : Sp} {C : Addr} {a b : Expr} {ta tb : TE} {pos : Pos} {E : XK}
theorem pe_kge (G : KgeX X.prog X.w X.K X.mg X.base C k ps sp) (hr : Room j X.A) (hx : Passes (L2.CX X.prog X.w) X E) (ha : PE X a ta) (hb : PE X b tb) (hj : k + 1 ≤ j := by decide)
    (hsl : ∀ x i, subscripted b true (.ref x) i = runValue (.builtin "lifetime.subscript" ⟨[.ref x, i], []⟩) := by intro _ _; with_unfolding_all rfl) :
    PE X (.Subscript a b pos) (tOp (rOwnIx C sp E) ta tb) := by
  obtain ⟨f, fd, M, bs, F⟩ := G
  refine ⟨fun pins s σ H Q I h => ?_⟩
  refine Subscript_ (binT ha hb I h fun v u s2 x y H2 I2 rx ry q => ?_)
  obtain ⟨o, dx, fs, rfl, eo, hsp⟩ := q
  obtain rfl : v = Value.ref o := rx
  obtain ⟨m, fr⟩ := I2.fr
  obtain ⟨od, O⟩ := ins_at I2 eo
  have r1 : Room k X.A.in1 := by
    have z := hr.mono hj
    exact ⟨z.hd, by have := z.dp; show X.A.depth + 3 * k + 5 < recursionLimit; omega, by have := z.un; show X.A.units + 1 + 16 * k + 200 < cLine; omega⟩
  have e0 := I2.env0
  have e1 : Env0 X.prog X.w X.K X.mg X.base X.A.in1 X.stack s2 H2 := ⟨e0.frames, e0.mod, e0.bs, e0.bsz, e0.funs, e0.frf, e0.hok, e0.bare⟩
  have rr : Vals [.ref o, y] [Value.ref o, u] := .cons rfl (.cons ry .nil)
  refine PySem.W.sub_K fr I2.ok.mod.kin O M.at_ M.fn M.isf ?_ (hsl _ _)
  have hl := F.len _ _ _ _ hsp
  refine wpAny_call (codeAny_mono (F.run X.A.in1 X.stack s2 H2 ⟨[.ref o, u], []⟩ [.ref o, u] [.ref o, y] Q E r1 e1 ?_ rr hsp) fun r s' hq => ?_)
  · have := bs s2 [.ref o, u] I2.kIn (by simpa using hl)
    simpa using this
  cases r with
  | error e => exact hx pins σ H2 s2 e s' I2 hq
  | ok fl =>
    cases fl with
    | ret u => exact I2.after hq
    | next => exact False.elim hq
    | brk => exact False.elim hq
    | cont => exact False.elim hq
end
end L2

/-! own rules 30: == of equal data in which dicts with tuples as keys stand -/
namespace L2
open PySem PySem.Spec PyProof.Rows
section
variable {P : Program} {w : World} {L : Type} [DecidableEq L] {kd : HeapKind P w L} {A : Around} {E : Value → Shared → Prop} {s : Shared}
/-- of two dicts every pair of the one stands in the other -/
theorem pairs_stand {id : String} {a b : Addr} {xs ys : List (L × Addr × Value)} {Q : Bool → Shared → Prop} (na : (a == sysModules) = false)
    (nb : (b == sysModules) = false) (da : s.heap.DictOfH kd a xs) (db : s.heap.DictOfH kd b ys) (hu : kd.room A) (len : xs.length = ys.length)
    (all : ∀ x ∈ xs, ∃ (j : Nat) (p : Addr × Value), ys[j]? = some (x.1, p) ∧ SeqAt.EqP P w A s x.2.2 p.2 true) (q : Q true s) :
    wpAny (model P w) A (Builtin.Dict.samePairs id a b) Q E s := by
  obtain ⟨o, es, ep, go, _, eo, le, _, _⟩ := da
  obtain ⟨o2, fs, fp, go2, _, eo2, lf, isf, nf⟩ := db
  have z1 : es.size = xs.length := size_of_entries le
  have z2 : fs.size = ys.length := size_of_entries lf
  have same : es.size = fs.size := by rw [z1, z2, len]
  have isa := ‹∀ x ∈ xs, kd.is s.heap x.1 x.2.1›
  unfold Builtin.Dict.samePairs Builtin.Dict.showsAll
  simp only [na, nb, Bool.false_eq_true, if_false]
  refine wpAny_bind (wpAny_pure (wpAny_bind (wpAny_pure (wpAny_bind (wpAny_dictEntries go eo ?_)))))
  refine wpAny_bind (wpAny_dictEntries go2 eo2 ?_)
  simp only [same, bne_self_eq_false, Bool.false_eq_true, if_false]
  refine wpAny_bind (wpAny_dictEpoch go eo (wpAny_bind ?_))
  rw [Std.Legacy.Range.forIn_eq_forIn_range']
  simp only [Std.Legacy.Range.size, Nat.sub_zero, Nat.add_sub_cancel, Nat.div_one]
  rw [← same]
  refine wpAny_forIn_list _ (fun left r s' => s' = s ∧ r = (none, ()) ∧ ∀ i ∈ left, i < es.size) _ ?_ ?_ _ _
    ⟨rfl, rfl, fun i hi => by simpa using (List.mem_range'.mp hi)⟩
  · rintro i left r s' ⟨rfl, rfl, below⟩
    have lt : i < es.size := below i List.mem_cons_self
    have lt2 : i < xs.length := z1 ▸ lt
    have at_ : es[i]? = some (entryOfKey kd xs[i]) := by rw [entry_at le i, List.getElem?_eq_getElem lt2]; rfl
    obtain ⟨j, p, hj, he⟩ := all xs[i] (List.getElem_mem lt2)
    have bt : fs[j]? = some (entryOfKey kd (xs[i].1, p)) := by rw [entry_at lf j, hj]; rfl
    refine wpAny_bind (wpAny_dictEntries go eo ?_)
    rw [at_]
    refine wpAny_bind (wpAny_holding (wpAny_bind ?_))
    refine wpAny_dictFind_heap (k := xs[i].1) hu (isa _ (List.getElem_mem lt2)) go2 eo2 lf isf nf (fun none_ => absurd hj (none_ j p)) fun j2 p2 hj2 => ?_
    have pp : p2 = p := by
      have e1 := atKey_of_get nf hj
      rw [atKey_of_get nf hj2] at e1
      exact Option.some.inj e1
    have bt2 : fs[j2]? = some (entryOfKey kd (xs[i].1, p)) := by rw [entry_at lf j2, hj2, pp]; rfl
    refine wpAny_bind (wpAny_dictEntries go2 eo2 ?_)
    rw [bt2]
    refine wpAny_holding (he _ _ ?_)
    simp only [Bool.not_true, Bool.false_eq_true, if_false]
    refine wpAny_bind (wpAny_dictEpoch go eo ?_)
    simp only [bne_self_eq_false, Bool.false_eq_true, if_false]
    exact wpAny_pure ⟨rfl, rfl, fun k hk => below k (List.mem_cons_of_mem _ hk)⟩
  · rintro r s' ⟨rfl, rfl, _⟩
    exact wpAny_pure q
/-- two dicts with tuples as keys are compared: equal -/
theorem rc_pairs {a b : Addr} {xs ys : List (L × Addr × Value)} (na : (a == sysModules) = false)
    (nb : (b == sysModules) = false) (da : s.heap.DictOfH kd a xs) (db : s.heap.DictOfH kd b ys) (hu : A.units < cLine) (hr : kd.room A.in1) (len : xs.length = ys.length)
    (all : ∀ x ∈ xs, ∃ (j : Nat) (p : Addr × Value), ys[j]? = some (x.1, p) ∧ SeqAt.EqP P w A.in1 s x.2.2 p.2 true)
    (E Q : Value → Shared → Prop) (q : Q (.bool true) s) :
    wpAny (model P w) A (richCompare .Eq (.ref a) (.ref b)) Q E s := by
  refine wpAny_richCompare_same_room (op := .Eq) da.typeIs db.typeIs PySem.F.slot_dict_eq (wpAny_call_entry PySem.F.slot_dict_eq da.typeIs PySem.F.entry_dict_eq ?_ (PySem.F.args_dict_eq_2 _ _)) hu
  show wpAny _ _ (Builtin.Dict.dictSlotArgs "__eq__" ⟨[.ref a, .ref b], []⟩ >>= _) _ _ s
  unfold Builtin.Dict.dictSlotArgs
  refine wpAny_bind (wpAny_bind (wpAny_notOrdered_dict da.typeIs ?_))
  show wpAny _ _ (pure (Value.ref a, Value.ref b)) _ _ s
  refine wpAny_pure (wpAny_bind (wpAny_isInstance (T := "dict") db.typeIs PySem.F.sub_dict_dict ?_))
  simp only [Bool.not_true, Bool.false_eq_true, if_false]
  exact wpAny_bind (wpAny_pure (wpAny_bind (wpAny_pure (wpAny_bind (pairs_stand na nb da db hr len all
    (wpAny_pure ⟨_, rfl, (fun x => nomatch x), q⟩))))))
end
/-- two lists, tuples or dicts that are equal piece by piece -/
def AlR (K : PySem.W.Frag) (H : Hp) (E : V → V → Prop) (x y : V) : Prop :=
  EqR K H E x y ∨ (∃ a b xs ys, x = .ref a ∧ y = .ref b ∧ SqT K H a xs ∧ SqT K H b ys ∧ Paired E xs ys) ∨
    ∃ a b ks ls, x = .ref a ∧ y = .ref b ∧ H a = some (.dT ks) ∧ H b = some (.dT ls) ∧ ks.length = ls.length ∧ ∀ p ∈ ks, ∃ u, valV ls p.1 = some u ∧ E p.2 u
/-- alike, of nesting below n -/
def AlV (K : PySem.W.Frag) (H : Hp) : Nat → V → V → Prop
  | 0 => fun _ _ => False
  | n + 1 => fun x y => (x = y ∧ flatB x = true) ∨ (∃ a, x = .ref a ∧ y = .ref a) ∨ AlR K H (AlV K H n) x y
section
variable {X : Cx} {pins : List (Addr × Obj)} {σ : St} {H : Hp} {s : Shared}
theorem at_atKey {L : Type} [DecidableEq L] {k : L} {p : Addr × Value} : ∀ {ys : List (L × Addr × Value)}, atKey ys k = some p → ∃ j : Nat, ys[j]? = some (k, p)
  | [], h => nomatch h
  | (k2, p2) :: r, h => by
    by_cases e : k2 = k
    · subst e
      have : atKey ((k2, p2) :: r) k2 = some p2 := by simp [atKey]
      rw [this] at h
      exact ⟨0, by rw [← Option.some.inj h]; rfl⟩
    · have : atKey ((k2, p2) :: r) k = atKey r k := by simp [atKey, e]
      rw [this] at h
      obtain ⟨j, hj⟩ := at_atKey h
      exact ⟨j + 1, hj⟩
theorem tk_pairs {P : Program} {w : World} {A : Around} {F : V → V → Prop} (ih : ∀ x y v u, F x y → RelV x v → RelV y u → SeqAt.EqP P w A s v u true)
    {ls : List (List Key × V)} {ys : List (List Key × Addr × Value)} (rb : KT H ls ys) {ks : List (List Key × V)} {xs : List (List Key × Addr × Value)}
    (ra : KT H ks xs) : (∀ p ∈ ks, ∃ u, valV ls p.1 = some u ∧ F p.2 u) →
      ∀ x ∈ xs, ∃ (j : Nat) (p : Addr × Value), ys[j]? = some (x.1, p) ∧ SeqAt.EqP P w A s x.2.2 p.2 true := by
  unfold KT at ra
  induction ra with
  | nil => intro _ x hx; exact nomatch hx
  | @cons p q ps qs h t k =>
    intro hp x hx
    rcases List.mem_cons.mp hx with e | hx
    · subst e
      obtain ⟨h1, _, h2⟩ := h
      obtain ⟨u, e, f⟩ := hp p List.mem_cons_self
      have rr : RelO (some u) ((atKey ys p.1).map (·.2)) := by rw [← e]; exact rb.val p.1
      obtain ⟨y, hy, ry⟩ := rr.some_of
      obtain ⟨z, hz, ez⟩ := Option.map_eq_some_iff.mp hy
      obtain ⟨j, hj⟩ := at_atKey hz
      refine ⟨j, z, by rw [← h1]; exact hj, ?_⟩
      rw [ez]
      exact ih _ _ _ _ f h2 ry
    · exact k (fun p' hm => hp p' (List.mem_cons_of_mem _ hm)) x hx
theorem alR_run (I : Inv X pins σ H s) {A : Around} {F : V → V → Prop} (hu : A.units + 1 < cLine) (ih : ∀ x y v u, F x y → RelV x v → RelV y u → SeqAt.EqP X.prog X.w A.in1 s v u true)
    {x y : V} {v u : Value} (h : AlR X.K H F x y) (rx : RelV x v) (ry : RelV y u)
    (E Q : Value → Shared → Prop) (q : Q (.bool true) s) : wpAny (model X.prog X.w) A (richCompare .Eq v u) Q E s := by
  rcases h with h | ⟨a, b, xs, ys, rfl, rfl, ha, hb, hp⟩ | ⟨a, b, ks, ls, rfl, rfl, ha, hb, hl, hp⟩
  · exact eqR_run I (by omega) ih h rx ry E Q q
  · cases (show v = Value.ref a from rx)
    cases (show u = Value.ref b from ry)
    obtain ⟨us, r1, p1, _⟩ := I.tuple ha
    obtain ⟨ws, r2, p2, _⟩ := I.tuple hb
    have hsz : us.toArray.size = ws.toArray.size := by
      rw [List.size_toArray, List.size_toArray, ← r1.length, ← r2.length]
      exact Paired.length hp
    refine SeqAt.rcIn_tuples (e := fun _ => true) p1 p2 (by omega) (fun j h1 h2 => ?_) ?_
    · have k := items_run ih hp r1 r2 j (by simpa using h1) (by simpa using h2)
      exact fun E Q hq => by simpa using k E Q hq
    · rw [show ((List.range (min us.toArray.size ws.toArray.size)).all fun _ => true) = true from List.all_eq_true.mpr fun _ _ => rfl, hsz]
      simpa using q
  · cases (show v = Value.ref a from rx)
    cases (show u = Value.ref b from ry)
    obtain ⟨_, ya, va, ra, da⟩ := dt_of I.hok ha
    obtain ⟨_, yb, vb, rb, db⟩ := dt_of I.hok hb
    have len : va.length = vb.length := by
      rw [← Paired.length ra, ← Paired.length rb]
      exact hl
    exact rc_pairs ya yb da db (by omega) (show A.units + 1 < cLine from hu) len (tk_pairs ih rb ra hp) E Q q
theorem alV_run (I : Inv X pins σ H s) : ∀ (n : Nat) (A : Around), A.units + n + 1 < cLine → ∀ (x y : V) (v u : Value), AlV X.K H n x y → RelV x v → RelV y u → SeqAt.EqP X.prog X.w A s v u true
  | 0, _, _, _, _, _, _, h, _, _ => (show False from h).elim
  | n + 1, A, hu, x, y, v, u, h, rx, ry => by
    rcases h with ⟨rfl, f⟩ | ⟨a, rfl, rfl⟩ | h
    · exact (eqAt_same rx ry f).eqP
    · cases (show v = Value.ref a from rx)
      cases (show u = Value.ref a from ry)
      exact (SeqAt.EqAt.same _).eqP
    · have step := alR_run I (A := A) (by omega) (alV_run I n A.in1 (by show A.units + 1 + n + 1 < cLine; omega)) h rx ry
      obtain ⟨a, b, rfl, rfl⟩ : ∃ a b, x = .ref a ∧ y = .ref b := by
        rcases h with (⟨a, b, _, _, e1, e2, _⟩ | ⟨a, b, _, _, e1, e2, _⟩) | ⟨a, b, _, _, e1, e2, _⟩ | ⟨a, b, _, _, e1, e2, _⟩
        · exact ⟨a, b, e1, e2⟩
        · exact ⟨a, b, e1, e2⟩
        · exact ⟨a, b, e1, e2⟩
        · exact ⟨a, b, e1, e2⟩
      cases (show v = Value.ref a from rx)
      cases (show u = Value.ref b from ry)
      by_cases e : a = b
      · subst e
        exact (SeqAt.EqAt.same _).eqP
      · exact SeqAt.eqP_refs e step
end
section
variable {X : Cx}
/-- a == b, two lists, tuples or dicts that are alike -/
def rAlV (K : PySem.W.Frag) : R2 := fun x y H Q => ∃ n, n ≤ 60 ∧ AlR K H (AlV K H n) x y ∧ Q (.bl true) H
theorem op_alV (hu : X.A.units + 64 < cLine) : OpR X (compareOp .Eq) (rAlV X.K) := by
  intro pins s σ H x y v u Q I rx ry h
  obtain ⟨n, hn, h, q⟩ := h
  exact alR_run I (A := X.A) (by omega) (alV_run I n X.A.in1 (by show X.A.units + 1 + n + 1 < cLine; omega)) h rx ry _ _ ⟨.bl true, H, I, rfl, q⟩
end
end L2

/-! own rules 31: a dict comprehension whose keys are tuples, assigned to a local name -/
namespace L2
open PySem PySem.Spec PyProof.Rows
section
variable {X : Cx}
theorem dcT_core {pn : List (Addr × Obj)} {sA : Shared} {σ : St} {HA : Hp} {Q : VK} {pos' : Pos} {use : Option (Value → Sem Unit)} {Qf : Value → Shared → Prop} {kx vx tg iter : Expr} {ifs : List Expr} {scope : Scope} {own : List (Str × Nat)} {pos : Pos} {wi : TI} {g : TG} {tt : TT}
    {tk tv : TE} (hu : X.A.units + 2 < cLine) (hc : X.calm = true) (hN : X.N.Nodup) (J0 : Inv X pn σ HA sA) (hi : PI X tg iter wi) (ok : BlkOk X.N X.env.scope scope own)
    (hg : ∀ (s : Shared) (H : Hp) (C : Addr) (cl : List (Str × Addr)) (fp : List Addr),
      PG (X.blk s H scope (compEnvC scope cl C X.env) fp) tg g)
    (ht : ∀ (s : Shared) (H : Hp) (C : Addr) (cl : List (Str × Addr)) (fp : List Addr),
      PTs (X.blk s H scope (compEnvC scope cl C X.env) fp) ifs tt)
    (hk : ∀ (s : Shared) (H : Hp) (C : Addr) (cl : List (Str × Addr)) (fp : List Addr),
      PE (X.blk s H scope (compEnvC scope cl C X.env) fp) kx tk)
    (he : ∀ (s : Shared) (H : Hp) (C : Addr) (cl : List (Str × Addr)) (fp : List Addr),
      PE (X.blk s H scope (compEnvC scope cl C X.env) fp) vx tv)
    (hs : ∀ x, foldedSetIterable iter X.env x = pure x)
    (want : tDcT wi g tt tk tv (own.map (·.2)) σ HA Q)
    (land : ∀ D C s' m H', Inv X pn σ H' s' → Q (.ref D) H' → s'.heap.Ns C m → FpOk X pn H' C → compPost (model X.prog X.w) X.A X.xe use Qf (.ref D) C (.ok .next) s') :
    wpAny (model X.prog X.w) X.A (comprehension (.DictComp kx vx [⟨tg, iter, ifs, 0⟩] scope pos) scope X.env pos' newDict false (eval iter X.env) use) Qf X.xe sA := by
  refine wpAny_comprehension_free (use := use) rfl hs (closure_ok (has_free J0 ok)) ok.kind (fun y hy e => by rw [ok.uniq y hy, e])
    (thn (hi.run pn sA σ HA _ J0 want) fun xv sB hx => thn hx fun itv sC hC => ?_)
  obtain ⟨it, fp, tn, J, HC, e, JC, T, stC, fC, q⟩ := hC
  subst e
  refine wpAny_newObj_type (newEnv_comp ?_)
  generalize eqD : sC.heap.objs.size = D
  have freeD : HC D = none := JC.hok.fresh (Nat.le_of_eq eqD)
  obtain ⟨W, ⟨m0, w0⟩, turn⟩ := q D freeD
  let emp : Obj := { cls := .type "dict", data := .dict #[] }
  generalize eqs : ({ sC with heap := sC.heap.push emp } : Shared) = sD
  have hpD : sD.heap = sC.heap.push emp := by rw [← eqs]
  have JD : Inv X pn σ (upd HC D (.dT [])) sD := by
    rw [← eqs]
    refine JC.laid (t' := sC.toks) (fun b o eb => Heap.get?_push_of_some _ eb) (Nat.le_of_eq eqD) ?_
    rw [← eqD]
    exact dt_empty sC.heap JC.big
  have below : ∀ b ∈ fp, b < sC.heap.objs.size := fun b hb =>
    let ⟨o, eb, _⟩ := T.obj _ _ stC b hb
    Heap.lt_size eb
  have fD : ∀ b ∈ fp, FpOk X pn (upd HC D (.dT [])) b ∧ b < sD.heap.objs.size := fun b hb => by
    have lt := below b hb
    refine ⟨⟨?_, (fC b hb).2⟩, by rw [hpD, Heap.size_push]; exact Nat.lt_succ_of_lt lt⟩
    rw [upd_ne (by rw [← eqD]; exact Nat.ne_of_lt lt)]
    exact (fC b hb).1
  have stD : tn 0 sD.heap := T.keep _ _ _ stC fun b _ o eb => by
    rw [hpD]
    exact Heap.get?_push_of_some _ eb
  have JE := block_start JD ok hN fD
  let cl := cellsFrom (sD.heap.objs.size + 1) scope.names (cloFrom X.env.cells scope.names [])
  have pg := hg sD (upd HC D (.dT [])) sD.heap.objs.size cl fp
  have pt := ht sD (upd HC D (.dT [])) sD.heap.objs.size cl fp
  have pk := hk sD (upd HC D (.dT [])) sD.heap.objs.size cl fp
  have pv := he sD (upd HC D (.dT [])) sD.heap.objs.size cl fp
  show codeAny _ _ (.compStart (.DictComp kx vx [⟨tg, iter, ifs, 0⟩] scope pos) 0 (.ref it) (.ref D) (compEnvC scope cl sD.heap.objs.size X.env))
    (compPost (model X.prog X.w) X.A X.xe use Qf (.ref D) sD.heap.objs.size)
    { sD with heap := pushCells (sD.heap.push emp) scope.names }
  have noFp : ∀ b ∈ fp, (upd HC D (.dT [])) b = none := fun b hb => (fD b hb).1.1
  generalize eqce : compEnvC scope cl sD.heap.objs.size X.env = ce at JE pg pt pk pv ⊢
  have ceL : ce.locals = sD.heap.objs.size := by subst eqce; rfl
  generalize upd HC D (.dT []) = HD at JD JE pg pt pk pv w0 noFp fD
  generalize eqE : ({ sD with heap := pushCells (sD.heap.push emp) scope.names } : Shared) = sE at JE ⊢
  have stE : tn 0 sE.heap := T.keep _ _ _ stD fun b _ o eb => by
    rw [← eqE]
    exact pushCells_keeps _ _ _ _ (Heap.get?_push_of_some _ eb)
  have still : ∀ {σ' : St} {H' : Hp} {s' : Shared}, Inv (X.blk sD HD scope ce fp) [] σ' H' s' → (∀ b ∈ fp, H' b = none) →
      ∀ b ∈ fp, FpOk (X.blk sD HD scope ce fp) [] H' b := fun {σ' H' s'} J' none_ b hb =>
    ⟨none_ b hb, (J'.ok.exf b hb).1, J'.ok.exfs b hb, .inl hb, fun x c ec => (J'.ok.exf b hb).2 x c ec, fun p hp => by simp at hp⟩
  have whole : codeAny (model X.prog X.w) X.A (.compLoop (.DictComp kx vx [⟨tg, iter, ifs, 0⟩] scope pos) 0 (.ref it) (.ref D) ce)
      (compPost (model X.prog X.w) X.A X.xe use Qf (.ref D) sD.heap.objs.size) sE := by
    refine compLoop_anyD (fun n s' => ∃ i H', Inv (X.blk sD HD scope ce fp) [] (wipe σ (own.map (·.2))) H' s' ∧ tn i s'.heap ∧
      (∀ b ∈ fp, H' b = none) ∧ W i n H') ?_ m0 ⟨0, HD, JE, stE, noFp, w0⟩
    rintro n s5 ⟨i, H5, J5, st5, n5, w5⟩
    rcases turn i n H5 w5 with ⟨stop, done⟩ | ⟨go, Nx, less, step⟩
    · have td := T.done (X.blk sD HD scope ce fp) rfl rfl rfl hc i [] s5 _ H5 (fun _ _ => False) J5 (still J5 n5) st5 stop
      refine thnF td fun r s6 ⟨none_, J6⟩ => ?_
      subst none_
      have J7 : Inv X pn σ H5 s6 := JD.call' (ch := fp) J6.os J6.base J6.hok J6.bare fun b hb =>
        ⟨(fD b hb).1.2.2.2.1, (fD b hb).1.2.1, (fD b hb).1.2.2.2.2.1, (fD b hb).1.2.2.2.2.2⟩
      have freeC : H5 sD.heap.objs.size = none := ceL ▸ (show H5 ce.locals = none from J6.free)
      obtain ⟨mm, ns, _⟩ := J6.loc
      have ns' : s6.heap.Ns sD.heap.objs.size mm := ceL ▸ (show s6.heap.Ns ce.locals mm from ns)
      exact land D sD.heap.objs.size s6 mm H5 J7 done ns' (JD.fpOk (H' := H5) (Nat.le_refl _) freeC)
    · have ti := T.item (X.blk sD HD scope ce fp) rfl rfl rfl hc i [] s5 _ H5 (fun _ _ => False) J5 (still J5 n5) st5 go
      refine thnF ti fun r s6 ⟨u, some_, h6⟩ => ?_
      subst some_
      refine thnF h6 fun _ s7 ⟨x, H7, J7, r7, y7, st7, n7⟩ => ?_
      have J7' := J7.pinned (still J7 n7) (T.obj _ _ st7)
      refine thnF (pg.run _ s7 _ H7 x u _ J7' r7 (step x H7 y7)) fun _ s8 ⟨σ8, H8, J8, same8, q8⟩ => ?_
      refine thnF (pt.run _ s8 σ8 H8 _ J8 q8) fun yes s9 ⟨H9, J9, q9⟩ => ?_
      have after : ∀ {s' : Shared} {H' : Hp}, Inv (X.blk sD HD scope ce fp) ([] ++ pinsAt fp s7.heap) σ8 H' s' → Nx H' →
          ∃ m, m < n ∧ ∃ i H', Inv (X.blk sD HD scope ce fp) [] (wipe σ (own.map (·.2))) H' s' ∧ tn i s'.heap ∧
            (∀ b ∈ fp, H' b = none) ∧ W i m H' := fun {s' H'} J' nx => by
        obtain ⟨m', lt, w'⟩ := less H' nx
        have pinned_ : ∀ b ∈ fp, ∀ o, s7.heap.get? b = some o → s'.heap.get? b = some o ∧ H' b = none := fun b hb o eb =>
          let z := J'.pin (b, o) (List.mem_append_right _ (List.mem_append_right _ (mem_pinsAt hb eb)))
          ⟨z.1, z.2.1⟩
        refine ⟨m', lt, i + 1, H', (J'.unpinned (pins := [])).weak (by rw [← same8, wipe_length]) (fun j v ev => ?_),
          T.keep _ _ _ st7 fun b hb o eb => (pinned_ b hb o eb).1, fun b hb => ?_, w'⟩
        · rw [← same8] at ev
          exact (wipe_some ev).1
        · obtain ⟨o, eb, _⟩ := T.obj _ _ st7 b hb
          exact (pinned_ b hb o eb).2
      cases yes with
      | false => exact after J9 (by simpa using q9)
      | true =>
        simp only [if_true] at q9 ⊢
        refine thnF (pk.run _ s9 σ8 H9 _ J9 q9) fun kv s10 ⟨yk, H10, J10, r10, q10⟩ => ?_
        refine thnF (pv.run _ s10 σ8 H10 _ J10 q10) fun vv s11 ⟨yv, H11, J11, r11, kvs, k, b, ek, hb, hD, small, nx⟩ => ?_
        subst ek
        cases (show kv = Value.ref b from r10)
        exact put_tupKey (X := X.blk sD HD scope ce fp) hu J11 hD small hb r11 fun s12 J12 => after J12 nx
  exact codeAny_compStart_dict whole (T.self X.A 0 _ _ _ stE whole)
/-- y = {k: v for ..}, keys tuples, y a local name that the block has none of -/
theorem ps_setDcT {i : Nat} {y : Str} {py : Pos} {kx vx tg iter : Expr} {ifs : List Expr} {scope : Scope} {own : List (Str × Nat)} {pos spos : Pos}
    {wi : TI} {g : TG} {tt : TT} {tk tv : TE} (hu : X.A.units + 2 < cLine) (hc : X.calm = true) (hN : X.N.Nodup) (hy : X.N[i]? = some y)
    (hyl : X.env.scope.names.lookup y = some .local)
    (swap : swapsWith (.DictComp kx vx [⟨tg, iter, ifs, 0⟩] scope pos) (some (.Name y py)) spos.line X.env = pure true)
    (hi : PI X tg iter wi) (ok : BlkOk X.N X.env.scope scope own)
    (hg : ∀ (s : Shared) (H : Hp) (C : Addr) (cl : List (Str × Addr)) (fp : List Addr),
      PG (X.blk s H scope (compEnvC scope cl C X.env) fp) tg g)
    (ht : ∀ (s : Shared) (H : Hp) (C : Addr) (cl : List (Str × Addr)) (fp : List Addr),
      PTs (X.blk s H scope (compEnvC scope cl C X.env) fp) ifs tt)
    (hk : ∀ (s : Shared) (H : Hp) (C : Addr) (cl : List (Str × Addr)) (fp : List Addr),
      PE (X.blk s H scope (compEnvC scope cl C X.env) fp) kx tk)
    (he : ∀ (s : Shared) (H : Hp) (C : Addr) (cl : List (Str × Addr)) (fp : List Addr),
      PE (X.blk s H scope (compEnvC scope cl C X.env) fp) vx tv)
    (hs : ∀ x, foldedSetIterable iter X.env x = pure x := by intro _; rfl) :
    PS X (.Assign [.Name y py] (.DictComp kx vx [⟨tg, iter, ifs, 0⟩] scope pos) spos) (tAsg (tDcT wi g tt tk tv (own.map (·.2))) (gName i)) := by
  refine ⟨fun pn sA σ HA D J want => ?_⟩
  rw [exec_Assign_Name_used _ _ _ _ swap]
  have want' : tDcT wi g tt tk tv (own.map (·.2)) σ HA (fun x H1 => gName i x σ H1 D.nx) := want
  refine wpAny_bind (wpAny_standAt (wpAny_bind (wpAny_bind (thn (dcT_core (Qf := fun _ s' => SP X pn D .next s') hu hc hN J hi ok hg ht hk he hs want'
    fun L C s' m H' J' q ns f => ?_) fun _ s' hq => wpAny_pure (wpAny_pure hq)))))
  refine wpAny_assign_Name (store_ok2 (v := V.ref L) J' hN hy (.inl hyl) rfl (fun s2 J2 ⟨a, sb, at_⟩ => ?_) (.inr hyl))
  obtain ⟨f0, f1, f2, f3, f4, f5⟩ := f
  have apart : C ≠ a := at_.elim (fun z => by rw [z]; exact f1) fun z e => f4 y a z e.symm
  exact ⟨m, ns.sameBut sb apart, fun h3 sb3 => ⟨_, H', J2.turned (t' := s2.toks) (fun b o hb e => (sb3.2 b hb).trans e) f0 f1 f3 f4 f5, q⟩⟩
end
end L2

/-! own rules 32: o.m() where m takes any number of arguments -/
namespace L2
open PySem PySem.Spec PyProof.Rows
theorem pe_methR0 {X : Cx} {CX : CXT} {k : Nat} {C f : Addr} {m : Str} {sp : Sp} {E : XK} {o : Expr} {ta : TE} {apos pos : Pos} {pl : Sem Bool} (he : PE X o ta) (c : Cls X.K C) (hm : Meth X.K C m f)
    (F : FnR X.prog X.w X.K X.mg X.base CX k f sp) (hr : Room k X.A) (hx : Passes CX X E)
    (ht : eval (.Call (.Attribute o m apos) [] [] pos) X.env = (do
      let ov ← eval o X.env
      standAt apos.atName
      let (f, first) ← holding [ov] (getMethod ov m pl)
      callWith pos f first (backTo pos (starEach [] X.env)) (backToKw pos (keywordEach [] X.env))) := by rfl) :
    PE X (.Call (.Attribute o m apos) [] [] pos) (tMethR C m sp E ta tNil) := by
  refine ⟨fun pins s σ H Q I h => ?_⟩
  refine PySem.W.methodCall_KW (pl := pl) (thn (he.run pins s σ H _ I h) fun u s1 ⟨x, H1, I1, rx, a, dx, fs, ex, ea, l, q⟩ => ?_) ht
  subst ex
  obtain rfl : u = Value.ref a := rx
  refine getmeth_ok I1 ea c hm l ?_
  exact PySem.W.callWith_K0 (first := [.ref a]) I1.kIn hm.kp (wpAny_call (run_fnR (us := [.ref a]) (vs := [.ref a]) F hr hx I1 (.cons rfl .nil) q))
/-- what a method that takes any number of arguments keeps -/
def KmS (P : Program) (w : World) (K : PySem.W.Frag) (mg : Str → Option Value) (base : Heap) (C : Addr) (k : Nat) (m : Str) (sp : Sp) : Prop :=
  ∃ f, Meth K C m f ∧ FnR P w K mg base CX0 k f sp
section
variable {X : Cx} {k j : Nat} {C : Addr} {m : Str} {sp : Sp}
theorem pe_kms {o e : Expr} {es : List Expr} {ta : TE} {t : TA} {apos pos : Pos} {pl : Sem Bool} (G : KmS X.prog X.w X.K X.mg X.base C k m sp) (c : Cls X.K C) (hr : Room j X.A) (he : PE X o ta) (ha : PA X (e :: es) t)
    (hj : k ≤ j := by decide) (hx : Passes CX0 X E0 := by exact pass0)
    (hst : starEach (e :: es) X.env = (false, eval e X.env) :: starEach es X.env := by rfl) (hpl : (backTo pos (starEach es X.env)).any (·.1) = false := by rfl)
    (ht : eval (.Call (.Attribute o m apos) (e :: es) [] pos) X.env = (do
      let ov ← eval o X.env
      standAt apos.atName
      let (f, first) ← holding [ov] (getMethod ov m pl)
      callWith pos f first (backTo pos (starEach (e :: es) X.env)) (backToKw pos (keywordEach [] X.env))) := by rfl) :
    PE X (.Call (.Attribute o m apos) (e :: es) [] pos) (tMethR C m sp E0 ta t) := by
  obtain ⟨f, hm, F⟩ := G
  exact pe_methR he c hm F (hr.mono hj) hx ha hst hpl ht
theorem pe_kms0 {o : Expr} {ta : TE} {apos pos : Pos} {pl : Sem Bool} (G : KmS X.prog X.w X.K X.mg X.base C k m sp) (c : Cls X.K C) (hr : Room j X.A) (he : PE X o ta)
    (hj : k ≤ j := by decide) (hx : Passes CX0 X E0 := by exact pass0)
    (ht : eval (.Call (.Attribute o m apos) [] [] pos) X.env = (do
      let ov ← eval o X.env
      standAt apos.atName
      let (f, first) ← holding [ov] (getMethod ov m pl)
      callWith pos f first (backTo pos (starEach [] X.env)) (backToKw pos (keywordEach [] X.env))) := by rfl) :
    PE X (.Call (.Attribute o m apos) [] [] pos) (tMethR C m sp E0 ta tNil) := by
  obtain ⟨f, hm, F⟩ := G
  exact pe_methR0 he c hm F (hr.mono hj) hx ht
end
end L2

/-! own rules 33: len(o), o of an own class -/
namespace L2
open PySem PySem.Spec PyProof.Rows
def rLenO (C : Addr) (sp : Sp) : List V → Hp → VK → Prop := fun xs H Q => ∃ (a dx : Addr) (fs : List (Str × V)), xs = [.ref a] ∧ H a = some (.ins C dx fs) ∧
  sp [.ref a] H (fun v H' => ∃ n : Nat, v = .int n ∧ n < 2 ^ 62 ∧ Q (.int n) H') E0
section
variable {X : Cx} {k j : Nat} {sp : Sp} {C : Addr}
theorem call_lenO (G : Kop X.prog X.w X.K X.mg X.base C k "__len__" ["self"] sp) (hr : Room j X.A) (hj : k + 1 ≤ j := by decide) (hx : Passes CX0 X E0 := by exact pass0) :
    CallR X (.builtin "len") (rLenO C sp) := by
  obtain ⟨f, fd, hs, hf, bs, F⟩ := G
  intro pins s σ H xs us Q I r h
  obtain ⟨o, dx, fs, rfl, eo, hsp⟩ := h
  obtain ⟨u, rfl, ru⟩ := vals1 r
  obtain rfl : u = Value.ref o := ru
  obtain ⟨m, fr⟩ := I.fr
  obtain ⟨od, O⟩ := ins_at I eo
  have r1 : Room k X.A.in1 := by
    have z := hr.mono hj
    exact ⟨z.hd, by have := z.dp; show X.A.depth + 3 * k + 5 < recursionLimit; omega, by have := z.un; show X.A.units + 1 + 16 * k + 200 < cLine; omega⟩
  have e0 := I.env0
  have e1 : Env0 X.prog X.w X.K X.mg X.base X.A.in1 X.stack s H := ⟨e0.frames, e0.mod, e0.bs, e0.bsz, e0.funs, e0.frf, e0.hok, e0.bare⟩
  have rr : Vals [.ref o] [Value.ref o] := .cons rfl .nil
  refine PySem.W.len_K fr I.ok.mod.kin O hs hf ?_
  have hl := F.len _ _ _ _ hsp
  refine wpAny_call (codeAny_mono (F.run X.A.in1 X.stack s H ⟨[.ref o], []⟩ [.ref o] [.ref o] _ E0 r1 e1 ?_ rr hsp) fun r s' hq => ?_)
  · have := bs s [.ref o] I.kIn (by simpa using hl)
    simpa using this
  cases r with
  | error e => exact hx pins σ H s e s' I hq
  | ok fl =>
    cases fl with
    | ret u =>
      obtain ⟨v, H', I', rv, n, rfl, small, q⟩ := I.after hq
      obtain ⟨t, rfl⟩ := (show ∃ t, u = Value.int n t from rv)
      refine ⟨⟨by omega, by omega⟩, .int n, H', I'.tok _, ⟨_, rfl⟩, q⟩
    | next => exact False.elim hq
    | brk => exact False.elim hq
    | cont => exact False.elim hq
end
end L2

/-! own rules 34: for i, x in enumerate(a tuple) -/
namespace L2
open PySem PySem.Spec PyProof.Rows
open PySem.AutoSeq1 (wpAny_loadPart')
theorem enum_newT (a : Addr) (o0 : Obj) (vs : Array Value) (n : Nat) (hc : o0.cls = .type "tuple") (hd : o0.data = .seq vs n) :
    Meets (Builtin.«enumerate.__new__» ⟨[.type "enumerate", .ref a], []⟩) (fun _ R s => s.heap.get? a = some o0 ∧
      R (.ok (.ret (.ref (s.heap.push { cls := .type "tuple_iterator", data := .fields #[.ref a, .int 0 0] }).objs.size)))
        { s with heap := (s.heap.push { cls := .type "tuple_iterator", data := .fields #[.ref a, .int 0 0] }).push { cls := .type "enumerate", data := .fields #[.none, .bool false, .ref s.heap.objs.size, rawInt 0, .none, .none] } }) :=
  .of_wp fun prog w A R s hyp => by
    obtain ⟨hp, g, d, tk, os⟩ := s
    obtain ⟨here, fin⟩ := hyp
    obtain ⟨c0, d0, t0, l0⟩ := o0
    dsimp only at hc hd
    subst hc hd
    have sub := sub_enumerate
    have isT : Heap.IsTuple (Shared.heap ⟨hp, g, d, tk, os⟩) a vs := ⟨_, here, rfl, n, rfl⟩
    wp_walk using wpAny_loadPart' here
    refine wpAny_stack_any fun stk => wpAny_pure ?_
    split
    · rename_i c _ _ _ _ _
      cases (c == Value.type "enumerate") <;> (wp_walk using wpAny_loadPart' here, wpAny_pyIter_tuple isT) <;> exact ⟨_, rfl, fin⟩
    · wp_walk using wpAny_loadPart' here, wpAny_pyIter_tuple isT
      exact ⟨_, rfl, fin⟩
section
variable {P : Program} {w : World} {A : Around} {E : Value → Shared → Prop} {s : Shared}
theorem enum_tuple {a : Addr} {vs : Array Value} {Q : Value → Shared → Prop} (isT : s.heap.IsTuple a vs)
    (h : ∀ h', IsEnum h' (s.heap.objs.size + 1) s.heap.objs.size 0 .none → h'.IsTupleIter s.heap.objs.size a 0 →
      (∀ b o, s.heap.get? b = some o → h'.get? b = some o) → Q (.ref (s.heap.objs.size + 1)) { s with heap := h' }) :
    wpAny (model P w) A (call (.type "enumerate") [.ref a]) Q E s := by
  obtain ⟨o0, here, hc, n, hd⟩ := isT
  refine callType_new F.called_enumerate (by decide) (F.typeCall_enumerate_1 _) (F.newCall_enumerate_1 _) (fun obj => F.args_object_init_2 obj _) F.entry_enumerate_new
    (enum_newT a o0 vs n hc hd) ⟨here, ?_⟩
  have sz : (s.heap.push { cls := .type "tuple_iterator", data := .fields #[.ref a, .int 0 0] }).objs.size = s.heap.objs.size + 1 := Heap.size_push ..
  show _ ∧ _
  rw [sz]
  have en : IsEnum ((s.heap.push { cls := .type "tuple_iterator", data := .fields #[.ref a, .int 0 0] }).push
      { cls := .type "enumerate", data := .fields #[.none, .bool false, .ref s.heap.objs.size, rawInt 0, .none, .none] }) (s.heap.objs.size + 1) s.heap.objs.size 0 .none := by
    have q := Heap.get?_push_size (s.heap.push { cls := .type "tuple_iterator", data := .fields #[.ref a, .int 0 0] })
      (o := { cls := .type "enumerate", data := .fields #[.none, .bool false, .ref s.heap.objs.size, rawInt 0, .none, .none] }) rfl
    rw [sz] at q
    exact q
  exact ⟨⟨_, en, rfl⟩, h _ en ⟨_, Heap.get?_push_of_some _ (Heap.get?_push_size _ rfl), rfl, rfl⟩ fun b o x => Heap.get?_push_of_some _ (Heap.get?_push_of_some _ x)⟩
theorem draw_tuple {P : Program} {w : World} {A : Around} (hh : A.handled = none) (it a : Addr) (ne : a ≠ it) (vs : Array Value) :
    Draws P w A it [it, a] vs.size (fun i v => vs[i]? = some v) (fun i h => h.IsTupleIter it a i ∧ h.IsTuple a vs) where
  live := fun _ _ st => let ⟨o, ho, _⟩ := st.1; ⟨o, ho⟩
  frame := fun _ _ _ st hk => let ⟨⟨o, ho, r⟩, o2, ho2, r2⟩ := st; ⟨⟨o, hk it (by simp) o ho, r⟩, o2, hk a (by simp) o2 ho2, r2⟩
  item := fun i s Q E hi st hQ => by
    refine PySem.wpAny_nextOf_tuple_item st.1 st.2 (x := vs[i]) (by simp [hi]) fun h' nx sb => ?_
    exact hQ _ h' s.toks (by simp [hi]) ⟨nx, st.2.extBut sb.extBut ne⟩ sb
  done := fun s Q E st hE => PySem.wpAny_nextOf_tuple_end hh st.1 st.2 (by simp) hE
end
/-- the tuple at a as it stands at each turn, its items in new pairs -/
def IteT (K : PySem.W.Frag) (a : Addr) : It :=
  ⟨fun i H => ∃ (xs : List V) (x : V), SqT K H a xs ∧ xs[i]? = some x,
    fun i H v H' => ∃ T x, v = .ref T ∧ H T = none ∧ H' = upd H T (.tup [.int (i : Nat), x]) ∧ ∀ xs, SqT K H a xs → xs[i]? = some x,
    fun i H => ∃ xs : List V, SqT K H a xs ∧ xs.length ≤ i⟩
theorem tupIt_ne {h : Heap} {a it : Addr} {vs : Array Value} {i : Nat} (x : h.IsTuple a vs) (y : h.IsTupleIter it a i) : a ≠ it := by
  intro z
  subst z
  obtain ⟨o, ho, hc, _⟩ := x
  obtain ⟨o2, ho2, hc2, _⟩ := y
  rw [ho] at ho2
  obtain rfl := Option.some.inj ho2
  rw [hc] at hc2
  exact absurd hc2 (by decide)
theorem tupEn_ne {h : Heap} {a e it : Addr} {vs : Array Value} {i : Int} {old : Value} (x : h.IsTuple a vs) (y : IsEnum h e it i old) : e ≠ a := by
  intro z
  subst z
  obtain ⟨o, ho, hc, _⟩ := x
  have y' : h.get? e = some _ := y
  rw [ho] at y'
  have q := Option.some.inj y'
  rw [q] at hc
  exact absurd (show Value.type "enumerate" = Value.type "tuple" from hc) (by decide)
theorem turn_enumT {P : Program} {w : World} {K : PySem.W.Frag} {elts : List Expr} {kk : Nat} {tpos : Pos} (a e it : Addr) :
    Turn P w K (.Tuple elts kk tpos) (IteT K a) [e, it] e (fun i h => (∃ old, IsEnum h e it ((i : Nat) : Int) old) ∧ h.IsTupleIter it a i ∧ e ≠ it) where
  mem := by simp
  obj := fun i h st b hb => by
    obtain ⟨⟨old, he⟩, ⟨o, ho, _, od⟩, _⟩ := st
    rcases (show b = e ∨ b = it by simpa using hb) with q | q
    · rw [q]
      exact ⟨_, he, fun v n => nomatch n⟩
    · rw [q]
      exact ⟨o, ho, fun v n => by rw [od] at n; cases n⟩
  keep := fun i h h' ⟨⟨old, he⟩, ⟨o, ho, r⟩, ne⟩ k => ⟨⟨old, k e (by simp) _ he⟩, ⟨o, k it (by simp) o ho, r⟩, ne⟩
  item := by
    intro X eP ew eK calm i pins s σ H E J fp st more
    subst eP ew eK
    obtain ⟨⟨old, he⟩, hit, ne⟩ := st
    obtain ⟨xs, x, hq, hx⟩ := more
    obtain ⟨its, rv, isT, hz⟩ := J.tuple hq
    have isT : s.heap.IsTuple a its.toArray := isT
    have ne2 := tupIt_ne isT hit
    have ne3 := tupEn_ne isT he
    obtain ⟨u, hu, ru⟩ := rv.get hx
    have lt : i < its.toArray.size := by
      rw [List.size_toArray]
      exact (List.getElem?_eq_some_iff.mp hu).1
    have le1 : e < s.heap.objs.size := Heap.lt_size he
    have le2 : it < s.heap.objs.size := let ⟨_, q, _⟩ := hit; Heap.lt_size q
    refine wpAny_pyNext_enum_itemD (draw_tuple (by exact J.ok.hd calm) it a ne2 its.toArray) he ⟨hit, isT⟩ lt ne (by simpa using ⟨ne, ne3⟩)
      fun x2 h' tk hc out hit' hT hsz kept => ?_
    obtain rfl : x2 = u := by
      have : its[i]? = some x2 := by simpa using hc
      rw [hu] at this
      exact (Option.some.inj this).symm
    refine ⟨_, rfl, wpAny_letOwnedTupleGo_enum (s := { s with heap := h', toks := tk + 1 }) out fun h'' he' sb => ?_⟩
    have hT2 : h''.get? s.heap.objs.size = some { cls := .type "tuple", data := .seq #[.int i tk, x2] } :=
      (sb.2 _ (Nat.ne_of_gt le1)).trans hT
    have isNew : ObjOk X.prog X.w (upd H s.heap.objs.size (.tup [.int (i : Nat), x])) h'' s.heap.objs.size (.tup [.int (i : Nat), x]) :=
      ⟨by show 2 ≤ sizeLine; decide, [.int i tk, x2], .cons ⟨_, rfl⟩ (.cons ru .nil), ⟨_, hT2, rfl, _, rfl⟩⟩
    have J1 : Inv X pins σ (upd H s.heap.objs.size (.tup [.int (i : Nat), x])) { s with heap := h'', toks := tk + 1 } :=
      J.turnedNew (ch := [e, it]) (fun b ob hb q => (sb.2 b (fun n => hb (by simp [n]))).trans
        (kept b ob (fun n => hb (by simp [n])) (fun n => hb (by simp [n])) q)) fp (Nat.le_refl _) isNew
    refine ⟨.ref s.heap.objs.size, _, J1, rfl, ⟨_, x, rfl, J.hok.fresh (Nat.le_refl _), rfl, fun ys hy => by rw [J.tuple_inj hy hq]; exact hx⟩,
      ⟨⟨x2, ?_⟩, ?_, ne⟩, fun b hb => ?_⟩
    · have e1 : ((i + 1 : Nat) : Int) = (i : Int) + 1 := by omega
      rw [e1]
      exact he'
    · obtain ⟨o, ho, r⟩ := hit'.1
      exact ⟨o, (sb.2 it (Ne.symm ne)).trans ho, r⟩
    · have : b < s.heap.objs.size := by
        rcases (show b = e ∨ b = it by simpa using hb) with q | q
        · rw [q]; exact le1
        · rw [q]; exact le2
      rw [upd_ne (Nat.ne_of_lt this)]
      exact (fp b hb).1
  done := by
    intro X eP ew eK calm i pins s σ H E J fp st stop
    subst eP ew eK
    obtain ⟨⟨old, he⟩, hit, ne⟩ := st
    obtain ⟨xs, hq, hx⟩ := stop
    obtain ⟨its, rv, isT, hz⟩ := J.tuple hq
    have isT : s.heap.IsTuple a its.toArray := isT
    have ne2 := tupIt_ne isT hit
    obtain ⟨f0, f1, f2, f3, f4, f5⟩ := fp it (by simp)
    have over : its.toArray[i]? = none := by
      have := rv.length
      simp
      omega
    have D : Draws X.prog X.w X.A.in1 it [it, a] i (fun _ _ => True) (fun j h => j = i ∧ h.IsTupleIter it a j ∧ h.IsTuple a its.toArray) := {
      live := fun _ _ st => let ⟨_, ⟨o, ho, _⟩, _⟩ := st; ⟨o, ho⟩
      frame := fun _ _ _ st hk => let ⟨ej, ⟨o, ho, r⟩, o2, ho2, r2⟩ := st; ⟨ej, ⟨o, hk it (by simp) o ho, r⟩, o2, hk a (by simp) o2 ho2, r2⟩
      item := fun j s Q E hj st hQ => absurd st.1 (Nat.ne_of_lt hj)
      done := fun s Q E st hE => PySem.wpAny_nextOf_tuple_end (by exact J.ok.hd calm) st.2.1 st.2.2 over hE }
    exact wpAny_pyNext_enum_endD D he ⟨rfl, hit, isT⟩ fun h' ext =>
      ⟨rfl, J.turned (t' := s.toks) (fun b o hb q => ext b o hb q) f0 f1 f3 f4 f5⟩
  self := fun A i s Q E ⟨⟨_, he⟩, _⟩ h => wpAny_pyIter_enum he h
def iEnumT (K : PySem.W.Frag) (ta : TA) : TI := fun σ H R => ta σ H fun vs H1 => ∃ a xs, vs = [.ref a] ∧ SqT K H1 a xs ∧ R (IteT K a) H1
theorem pi_enumT {X : Cx} {e : Expr} {ta : TA} {p pos tpos : Pos} {elts : List Expr} {kk : Nat} (hg : Gl X "enumerate") (hm : X.mg "enumerate" = none)
    (ha : PA X [e] ta) (one : starEach [e] X.env = [(false, eval e X.env)] := by rfl) :
    PI X (.Tuple elts kk tpos) (.Call (.Name "enumerate" p) [e] [] pos) (iEnumT X.K ta) := by
  refine ⟨fun pn sA σ H R J want => ?_⟩
  refine Call_ (ld_blt J hg hm boot_enumerate (PyProof.Rows.callWith_type1 (thn (ha.run pos pn sA σ H _ J want)
    fun us s1 ⟨vs, H1, J1, r1, a, xs, ez, hq, q⟩ => ?_) one rfl))
  subst ez
  obtain ⟨u, rfl, ru⟩ := vals1 r1
  obtain rfl : u = Value.ref a := ru
  obtain ⟨its, rv, isT, hz⟩ := J1.tuple hq
  refine enum_tuple (show s1.heap.IsTuple a its.toArray from isT) fun h' he hit hk => wpAny_pyIter_enum he ?_
  have J2 : Inv X pn σ H1 { s1 with heap := h' } := J1.kept (t' := s1.toks) hk
  refine ⟨s1.heap.objs.size + 1, [s1.heap.objs.size + 1, s1.heap.objs.size], _, _, H1, rfl, J2, turn_enumT a _ _,
    ⟨⟨.none, he⟩, hit, Nat.succ_ne_self _⟩, fun b hb => ?_, q⟩
  have up : s1.heap.objs.size ≤ b := by
    rcases (show b = s1.heap.objs.size + 1 ∨ b = s1.heap.objs.size by simpa using hb) with n | n
    · rw [n]; exact Nat.le_succ _
    · rw [n]; exact Nat.le_refl _
  exact J1.fpOk up (J1.hok.fresh up)
theorem walk_enumT {K : PySem.W.Frag} {a : Addr} {xs : List V} : Walk (IteT K a) xs.length (fun H => SqT K H a xs) (YPair (fun i => some (.int (i : Nat))) (fun i => xs[i]?)) := by
  refine ⟨fun i _ hi q => ⟨xs, xs[i], q, by simp [hi]⟩, fun _ q => ⟨xs, q, Nat.le_refl _⟩, fun i H v H' _ q y => ?_⟩
  obtain ⟨T, x, h1, h2, h3, h4⟩ := y
  exact ⟨T, .int (i : Nat), x, h1, h2, h3, rfl, h4 xs q⟩
end L2

/-! own rules 35: x in o, x not in o, o of an own class -/
namespace L2
open PySem PySem.Spec PyProof.Rows
/-- x in o by the class's own __contains__, which answers a bool -/
def rInO (C : Addr) (sp : Sp) (neg : Bool) : R2 := fun x y H Q => ∃ (a dx : Addr) (fs : List (Str × V)), y = .ref a ∧ H a = some (.ins C dx fs) ∧
  sp [.ref a, x] H (fun v H' => ∃ k, v = .bl k ∧ Q (.bl (if neg then !k else k)) H') E0
section
variable {X : Cx} {k j : Nat} {sp : Sp} {C : Addr}
theorem op_inO (G : Kop X.prog X.w X.K X.mg X.base C k "__contains__" ["self", "x"] sp) (hr : Room j X.A) (hj : k ≤ j := by decide) (hx : Passes CX0 X E0 := by exact pass0) :
    OpR X (compareOp .In) (rInO C sp false) := by
  obtain ⟨f, fd, hs, hf, bs, F⟩ := G
  intro pins s σ H x y v u Q I rx ry h
  obtain ⟨o, dx, fs, rfl, eo, hsp⟩ := h
  obtain rfl : u = Value.ref o := ry
  obtain ⟨m, fr⟩ := I.fr
  obtain ⟨od, O⟩ := ins_at I eo
  refine PySem.W.in_K fr I.ok.mod.kin O hs hf ?_
  refine wpAny_mono (run_fn (us := [.ref o, v]) (vs := [.ref o, x]) (ds := []) (dvs := []) F (hr.mono hj) bs .nil hx I (.cons rfl (.cons rx .nil)) hsp) (fun r s' z => ?_) fun _ _ z => z
  obtain ⟨w2, H2, I2, rr, b, eb, q⟩ := z
  subst eb
  have er : r = Value.bool b := rr
  subst er
  exact wpAny_truthy_bool ⟨.bl b, H2, I2, rfl, by simpa using q⟩
theorem op_notInO (G : Kop X.prog X.w X.K X.mg X.base C k "__contains__" ["self", "x"] sp) (hr : Room j X.A) (hj : k ≤ j := by decide) (hx : Passes CX0 X E0 := by exact pass0) :
    OpR X (compareOp .NotIn) (rInO C sp true) := by
  obtain ⟨f, fd, hs, hf, bs, F⟩ := G
  intro pins s σ H x y v u Q I rx ry h
  obtain ⟨o, dx, fs, rfl, eo, hsp⟩ := h
  obtain rfl : u = Value.ref o := ry
  obtain ⟨m, fr⟩ := I.fr
  obtain ⟨od, O⟩ := ins_at I eo
  refine PySem.W.notIn_K fr I.ok.mod.kin O hs hf ?_
  refine wpAny_mono (run_fn (us := [.ref o, v]) (vs := [.ref o, x]) (ds := []) (dvs := []) F (hr.mono hj) bs .nil hx I (.cons rfl (.cons rx .nil)) hsp) (fun r s' z => ?_) fun _ _ z => z
  obtain ⟨w2, H2, I2, rr, b, eb, q⟩ := z
  subst eb
  have er : r = Value.bool b := rr
  subst er
  exact wpAny_truthy_bool ⟨.bl (!b), H2, I2, rfl, by simpa using q⟩
end
end L2

/-! own rules 36: x not in a tuple of texts, x no text; a text and a dict are unequal -/
namespace L2
open PySem PySem.Spec PyProof.Rows PySem.SeqAt PySem.MeetsSeq
section
variable {A : Around} {s : Shared}
theorem str_eq_declines_dict (b : Str) (u : Tok) (l : Addr) (o : Obj) (es : Array DictEntry) (ep : Nat) (hd : o.data = .dict es ep) :
    Meets (Builtin.«str.__eq__» ⟨[.str b u, .ref l], []⟩) (fun _ R s => s.heap.get? l = some o ∧ R (.ok (.ret .notImplemented)) s) := by
  obtain ⟨c, dd, dt, sl⟩ := o
  cases hd
  exact .of_wp fun prog w A R s h => by
    obtain ⟨hp, g, d, tk, os⟩ := s
    obtain ⟨hl, h⟩ := h
    wp_walk using wpAny_load hl
    exact ⟨_, rfl, h⟩
theorem EqAt.str_dict {l : Addr} {o : Obj} {es : Array DictEntry} {ep : Nat} (b : Str) (u : Tok) (ho : s.heap.get? l = some o) (hc : o.cls = .type "dict") (hd : o.data = .dict es ep) (hu : A.units < cLine) :
    EqAt A s (.str b u) (.ref l) false := fun prog w E Q h => by
  unfold eqBool
  refine wpAny_holding ?_
  refine wpAny_ite_split (fun hab => absurd (eq_of_beq hab) nofun) (fun _ => ?_)
  refine wpAny_bind ?_
  have ht : s.TypeIs (.ref l) "dict" := ⟨_, ho, by rw [hc]⟩
  refine rc_eq_decline_or (k := false) (typeIs_str s b u) ht (by decide) F.sub_dict_str F.slot_str_eq F.slot_dict_eq_refl
    (fun _ hq => call_meets F.slot_str_eq (typeIs_str s b u) F.entry_str_eq (F.args_str_eq_2 _ _) (str_eq_declines_dict b u l o es ep hd) ⟨ho, hq⟩)
    (fun _ hq => wpAny_call_entry F.slot_dict_eq_refl ht F.entry_dict_eq ?_ (F.args_dict_eq_2 _ _))
    (fun _ hq => wpAny_of_eq (rfl : isSame (.str b u) (.ref l) = pure false) hq) (.inr hu) (wpAny_truthy_bool h)
  show wpAny _ _ (Builtin.Dict.dictSlotArgs "__eq__" ⟨[.ref l, .str b u], []⟩ >>= _) _ _ s
  unfold Builtin.Dict.dictSlotArgs
  refine wpAny_bind (wpAny_bind (wpAny_notOrdered_dict ht ?_))
  show wpAny _ _ (pure (Value.ref l, Value.str b u)) _ _ s
  refine wpAny_pure (wpAny_bind (wpAny_isInstance (T := "str") (typeIs_str s b u) F.sub_str_dict ?_))
  simp only [Bool.not_false, if_true]
  wp_walk
  exact ⟨_, rfl, hq⟩
end
/-- what is no text, as far as it stands beside texts -/
def NoT (H : Hp) (x : V) : Prop := x = .non ∨ (∃ i : Int, x = .int i) ∨ (∃ b : Bool, x = .bl b) ∨ (∃ a xs, x = .ref a ∧ H a = some (.lst xs)) ∨ (∃ a xs, x = .ref a ∧ H a = some (.tup xs)) ∨ ∃ a kvs, x = .ref a ∧ H a = some (.dK kvs)
def rNotInTx (K : PySem.W.Frag) : R2 := fun x y H Q => ∃ (p : Addr) (xs : List Str), y = .ref p ∧ SqT K H p (xs.map V.str) ∧ ((NoT H x ∧ Q (.bl true) H) ∨ ∃ z : Str, x = .str z ∧ Q (.bl (!decide (z ∈ xs))) H)
theorem op_notInTx {X : Cx} (hu : X.A.units + 2 < cLine) : OpR X (compareOp .NotIn) (rNotInTx X.K) := by
  intro pins s σ H x y v u Q I rx ry h
  obtain ⟨p, xs, rfl, hp, h⟩ := h
  cases (show u = Value.ref p from ry)
  obtain ⟨us, r1, p1, _⟩ := I.tuple hp
  rcases h with ⟨hx, q⟩ | ⟨z, rfl, q⟩
  · have hstr : ∀ y, y ∈ us.toArray → ∃ b t, y = Value.str b t := by
      have go : ∀ {xs : List Str} {us : List Value}, Vals (xs.map V.str) us → ∀ y ∈ us, ∃ b t, y = Value.str b t := by
        intro xs
        induction xs with
        | nil => intro us r y hy; cases r; cases hy
        | cons x xs ih =>
          intro us r y hy
          rw [List.map_cons] at r
          cases r with
          | cons r0 rt =>
            rcases List.mem_cons.mp hy with rfl | hy
            · obtain ⟨t, rfl⟩ := r0
              exact ⟨_, _, rfl⟩
            · exact ih rt y hy
      intro y hy
      exact go r1 y (by simpa using hy)
    refine notIn_tupleAt (fun _ => false) p1 (fun y hy => ?_) ?_
    · obtain ⟨b, t, rfl⟩ := hstr y hy
      have hu1 : X.A.in1.units < cLine := by
        show X.A.units + 1 < cLine
        omega
      rcases hx with rfl | ⟨i, rfl⟩ | ⟨i, rfl⟩ | ⟨a, ls, rfl, ha⟩ | ⟨a, ls, rfl, ha⟩ | ⟨a, kvs, rfl, ha⟩
      · cases rx
        exact EqAt.str_none b t
      · obtain ⟨t2, rfl⟩ := rx
        exact EqAt.str_int b t i t2
      · cases rx
        exact EqAt.str_bool b t i
      · cases (show v = Value.ref a from rx)
        obtain ⟨its, rv, hl, _⟩ := I.list (SqL.of ha)
        obtain ⟨o, n, ho, hc, _, hd⟩ := hl
        exact EqAt.str_list b t ⟨o, ho, hc, _, hd⟩ hu1
      · cases (show v = Value.ref a from rx)
        obtain ⟨its, rv, hl, _⟩ := I.tuple (SqT.of ha)
        exact EqAt.str_tuple b t hl hu1
      · cases (show v = Value.ref a from rx)
        obtain ⟨_, hsys, vs, rv, o, es, ep, ho, hc, hd, _, hp, _⟩ := (show ObjOk X.prog X.w H s.heap a (.dK kvs) from I.hok a _ ha)
        exact EqAt.str_dict b t ho hc.1 hd hu1
    · have e : us.toArray.any (fun _ => false) = false := by
        rw [← Array.any_toList]
        simp
      rw [e]
      exact ⟨.bl true, H, I, rfl, q⟩
  · refine (op_notIn_seq (X := X)) pins s σ H _ (.ref p) _ _ Q I rx rfl ⟨p, _, rfl, .inr hp, rfl, ?_, ?_⟩
    · rw [List.all_map, List.all_eq_true]
      intro y _
      rfl
    · have e : inV (.str z) (xs.map V.str) = decide (z ∈ xs) := by
        unfold inV
        rw [List.any_map, Bool.eq_iff_iff, List.any_eq_true, decide_eq_true_eq]
        constructor
        · rintro ⟨y, hy, e⟩
          have : eqV (.str y) (.str z) = true := e
          have : y = z := by simpa [eqV] using this
          rw [← this]
          exact hy
        · intro h
          exact ⟨z, h, by simp [eqV]⟩
      simp only [if_true, e]
      exact q
end L2

/-! own rules 37: methods that raise, called by position, by keywords in the contrary order, with any number of arguments; making an object may raise; what is never come to -/
namespace L2
open PySem PySem.Spec PyProof.Rows
theorem pss_no {X : Cx} {b : List Stmt} : PSs X b (fun _ _ _ => False) := ⟨fun _ _ _ _ _ _ h => h.elim⟩
/-- what a method keeps that may raise -/
def KmxX (P : Program) (w : World) (K : PySem.W.Frag) (mg : Str → Option Value) (base : Heap) (C : Addr) (k : Nat) (m : Str) (ps : List Str) (sp : Sp) : Prop :=
  ∃ f fd, Meth K C m f ∧ Binds K fd ps [] ∧ FnOk P w K mg base (L2.CX P w) k f fd ps sp
/-- how keywords in the contrary order bind behind the instance -/
def KwV (fd : FuncData) (ps ks : List Str) : Prop := ∀ (s : Shared) (u : Value) (ws : List Value), ws.length = ks.length →
  BindsTo s fd ⟨[u], ks.zip ws⟩ (ps.zip (u :: ws.reverse))
def KmxV (P : Program) (w : World) (K : PySem.W.Frag) (mg : Str → Option Value) (base : Heap) (C : Addr) (k : Nat) (m : Str) (ps ks : List Str) (sp : Sp) : Prop :=
  ∃ f fd, Meth K C m f ∧ KwV fd ps ks ∧ FnOk P w K mg base (L2.CX P w) k f fd ps sp
/-- o.m(kd = v, .., ka = v), the last parameter first -/
def tMethV (C : Addr) (m : Str) (sp : Sp) (E : XK) (ta : TE) (t : TA) : TE := fun σ H Q => ta σ H fun x H1 => ∃ a dx fs, x = .ref a ∧ H1 a = some (.ins C dx fs) ∧ fs.lookup m = none ∧
  t σ H1 fun vs H2 => sp (x :: vs.reverse) H2 Q E
def KmsX (P : Program) (w : World) (K : PySem.W.Frag) (mg : Str → Option Value) (base : Heap) (C : Addr) (k : Nat) (m : Str) (sp : Sp) : Prop :=
  ∃ f, Meth K C m f ∧ FnR P w K mg base (L2.CX P w) k f sp
def KmkX (P : Program) (w : World) (K : PySem.W.Frag) (mg : Str → Option Value) (base : Heap) (C : Addr) (k : Nat) (ps : List Str) (sp : Sp) : Prop :=
  ∃ f fd, Mk K C f ∧ Binds K fd ps [] ∧ FnOk P w K mg base (L2.CX P w) k f fd ps sp
theorem vals_rev : ∀ {vs : List V} {us : List Value}, Vals vs us → Vals vs.reverse us.reverse
  | _, _, .nil => .nil
  | _, _, .cons h t => by
    rw [List.reverse_cons, List.reverse_cons]
    exact (vals_rev t).append (.cons h .nil)
section
variable {X : Cx} {k j : Nat} {ps ks : List Str} {sp : Sp} {m x : Str} {C : Addr} {o e : Expr} {es : List Expr} {kws : List Keyword} {to tf : TE} {ta : TA} {apos pos p : Pos} {E : XK}
theorem pe_kmx {pl : Sem Bool} (F : KmxX X.prog X.w X.K X.mg X.base C k m ps sp) (c : Cls X.K C) (hr : Room j X.A) (hx : Passes (L2.CX X.prog X.w) X E) (he : PE X o to) (ha : PA X (e :: es) ta)
    (hj : k ≤ j := by decide)
    (hst : starEach (e :: es) X.env = (false, eval e X.env) :: starEach es X.env := by rfl) (hpl : (backTo pos (starEach es X.env)).any (·.1) = false := by rfl)
    (ht : eval (.Call (.Attribute o m apos) (e :: es) [] pos) X.env = (do
      let ov ← eval o X.env
      standAt apos.atName
      let (f, first) ← holding [ov] (getMethod ov m pl)
      callWith pos f first (backTo pos (starEach (e :: es) X.env)) (backToKw pos (keywordEach [] X.env))) := by rfl) :
    PE X (.Call (.Attribute o m apos) (e :: es) [] pos) (tMeth C m sp [] E to ta) := by
  obtain ⟨f, fd, M, b, F⟩ := F
  exact pe_meth he c M F (hr.mono hj) b .nil hx ha hst hpl ht
theorem pe_kmsx {pl : Sem Bool} (G : KmsX X.prog X.w X.K X.mg X.base C k m sp) (c : Cls X.K C) (hr : Room j X.A) (hx : Passes (L2.CX X.prog X.w) X E) (he : PE X o to) (ha : PA X (e :: es) ta)
    (hj : k ≤ j := by decide)
    (hst : starEach (e :: es) X.env = (false, eval e X.env) :: starEach es X.env := by rfl) (hpl : (backTo pos (starEach es X.env)).any (·.1) = false := by rfl)
    (ht : eval (.Call (.Attribute o m apos) (e :: es) [] pos) X.env = (do
      let ov ← eval o X.env
      standAt apos.atName
      let (f, first) ← holding [ov] (getMethod ov m pl)
      callWith pos f first (backTo pos (starEach (e :: es) X.env)) (backToKw pos (keywordEach [] X.env))) := by rfl) :
    PE X (.Call (.Attribute o m apos) (e :: es) [] pos) (tMethR C m sp E to ta) := by
  obtain ⟨f, hm, F⟩ := G
  exact pe_methR he c hm F (hr.mono hj) hx ha hst hpl ht
theorem pe_mkcx (F : KmkX X.prog X.w X.K X.mg X.base C k ps sp) (hr : Room j X.A) (hx : Passes (L2.CX X.prog X.w) X E) (hg : Gl X x) (hm : X.mg x = some (.ref C))
    (ha : PA X (e :: es) ta) (hj : k + 1 ≤ j := by decide) (hdb : (x == ("__debug__" : Str)) = false := by decide)
    (he : starEach (e :: es) X.env = (false, eval e X.env) :: starEach es X.env := by rfl)
    (hpl : (backTo pos (starEach es X.env)).any (·.1) = false := by rfl) :
    PE X (.Call (.Name x p) (e :: es) [] pos) (tMake C sp [] E ta) := by
  obtain ⟨f, fd, M, b, F⟩ := F
  exact pe_make M F (hr.mono hj) hg hm b .nil hx ha hdb he hpl
theorem pe_kmxV {pl : Sem Bool} (F : KmxV X.prog X.w X.K X.mg X.base C k m ps ks sp) (c : Cls X.K C) (hr : Room j X.A) (hx : Passes (L2.CX X.prog X.w) X E) (he : PE X o to) (hkw : PK X kws ta)
    (hl : ∀ vs H Q E, sp vs H Q E → vs.length = ks.length + 1) (hj : k ≤ j := by decide)
    (hks : (backToKw pos (keywordEach kws X.env)).filterMap (·.1) = ks := by rfl)
    (hall : (backToKw pos (keywordEach kws X.env)).all (·.1.isSome) = true := by rfl)
    (hpl : ((backTo pos (starEach [] X.env)).any (·.1) || (backToKw pos (keywordEach kws X.env)).any (·.1.isNone)) = false := by rfl)
    (ht : eval (.Call (.Attribute o m apos) [] kws pos) X.env = (do
      let ov ← eval o X.env
      standAt apos.atName
      let (f, first) ← holding [ov] (getMethod ov m pl)
      callWith pos f first (backTo pos (starEach [] X.env)) (backToKw pos (keywordEach kws X.env))) := by rfl) :
    PE X (.Call (.Attribute o m apos) [] kws pos) (tMethV C m sp E to ta) := by
  obtain ⟨f, fd, hm, hb, F⟩ := F
  have hr := hr.mono hj
  refine ⟨fun pins s σ H Q I h => ?_⟩
  refine PySem.W.methodCall_KW (pl := pl) (thn (he.run pins s σ H _ I h) fun u s1 ⟨x, H1, I1, rx, a, dx, fs, ex, ea, l, q⟩ => ?_) ht
  subst ex
  obtain rfl : u = Value.ref a := rx
  refine getmeth_ok I1 ea c hm l ?_
  refine PySem.W.callWith_KW0 (first := [.ref a]) (h₀ := X.base) I.ok.mod.kin hm.kp hall (thn (hkw.run pos pins s1 σ H1 _ I1 q) fun us s2 ⟨vs, H2, I2, r2, hsp⟩ => ⟨I2.kIn, ?_⟩) hpl
  rw [hks]
  have hn := hl _ _ _ _ hsp
  refine wpAny_call (codeAny_mono (F.run X.A X.stack s2 H2 ⟨[.ref a], ks.zip us⟩ (.ref a :: us.reverse) (.ref a :: vs.reverse) Q E hr I2.env0 (hb s2 _ us (by
    rw [← Paired.length r2]
    simpa using hn)) (.cons rfl (vals_rev r2)) hsp) fun r s' hq => ?_)
  cases r with
  | error e => exact hx pins σ H2 s2 e s' I2 hq
  | ok fl =>
    cases fl with
    | ret u => exact I2.after hq
    | next => exact False.elim hq
    | brk => exact False.elim hq
    | cont => exact False.elim hq
end
end L2

/-! own rules 38: list(a text); f(kb = v, ka = v), the last parameter first -/
namespace L2
open PySem PySem.Spec PyProof.Rows
theorem vals_of_get : ∀ {xs : List V} {us : List Value}, us.length = xs.length → (∀ (j : Nat) (u : Value), us[j]? = some u → ∃ x, xs[j]? = some x ∧ RelV x u) → Vals xs us
  | [], [], _, _ => .nil
  | x :: xs, u :: us, hl, h => by
    obtain ⟨y, e, r⟩ := h 0 u rfl
    obtain rfl : x = y := Option.some.inj e
    exact .cons r (vals_of_get (by simpa using hl) fun j v hv => h (j + 1) v hv)
  | [], _ :: _, hl, _ => by simp at hl
  | _ :: _, [], hl, _ => by simp at hl
theorem call_list_strS {X : Cx} (hc : X.calm = true) : CallR X (.type "list") (fun xs H Q => ∃ z : Str, xs = [.str z] ∧ z.cps.size ≤ sizeLine ∧ ∀ l, H l = none → Q (.ref l) (upd H l (.lst (signs z)))) := by
  intro pins s σ H xs us Q I r h
  obtain ⟨z, rfl, hz, q⟩ := h
  obtain ⟨u, rfl, ru⟩ := vals1 r
  obtain ⟨t, rfl⟩ := ru
  refine call_list_str (I.ok.hd hc) z t (hn := hz) fun h' tk acc c' hk hS hacc => ?_
  have hv : Vals (signs z) acc.toList := by
    refine vals_of_get ?_ fun j v hv => ?_
    · rw [Array.length_toList, hacc.1, signs_len]
    · obtain ⟨c, u, hc, rfl⟩ := hacc.2 j v (by simpa using hv)
      exact ⟨_, signs_at.mp ⟨c, hc, rfl⟩, ⟨u, rfl⟩⟩
  exact ⟨.ref s.heap.objs.size, _, I.laid (t' := tk) hk (Nat.le_refl _) (show ObjOk X.prog X.w _ h' _ (.lst (signs z)) from ⟨by rw [signs_len]; exact hz, acc.toList, c', hv, by rw [Array.toArray_toList]; exact hS⟩), rfl, q _ (I.hok.fresh (Nat.le_refl _))⟩
/-- how keywords in the contrary order bind -/
def KwB (fd : FuncData) (ps ks : List Str) : Prop := ∀ (s : Shared) (ws : List Value), ws.length = ks.length → BindsTo s fd ⟨[], ks.zip ws⟩ (ps.zip ws.reverse)
/-- a def of the top, called by keywords too -/
def OwnK (K : PySem.W.Frag) (mg : Str → Option Value) (x : Str) (st : Stmt) (ps ks : List Str) : Prop :=
  ∃ f fd, mg x = some (.ref f) ∧ Fun K x x st f fd ∧ Binds K fd ps [] ∧ KwB fd ps ks
def KfV (P : Program) (w : World) (K : PySem.W.Frag) (mg : Str → Option Value) (base : Heap) (k : Nat) (x : Str) (ps ks : List Str) (sp : Sp) : Prop :=
  ∃ f fd, mg x = some (.ref f) ∧ PySem.W.keepIn K (.ref f) = true ∧ KwB fd ps ks ∧ FnOk P w K mg base CX0 k f fd ps sp
def tCallV (sp : Sp) (E : XK) (t : TA) : TE := fun σ H Q => t σ H fun vs H1 => sp vs.reverse H1 Q E
section
variable {P : Program} {w : World} {K : PySem.W.Frag} {mg : Str → Option Value} {base : Heap}
theorem OwnK.okF {x : Str} {st : Stmt} {N ps ks : List Str} {k : Nat} {sp : Sp} (O : OwnK K mg x st ps ks)
    (S : FnScope N ps (defScope st)) (len : ∀ vs H Q E, sp vs H Q E → vs.length = ps.length)
    (hbody : ∀ (f : Addr) (cdv : Value) (A : Around) (outer : List Env) (s : Shared) (H : Hp) (vs : List V) (Q : VK)
      (E : XK), True →
      Room k (A.deeper (envOfC x (defScope st) s.heap.objs.size f cdv)) → sp vs H Q E →
      ∃ t, PSs (cxOf CX0 P w K mg base N x (defScope st) f cdv A outer s H E).nox (defBody st) t ∧
        t { nx := fun _ H' => Q .non H', rt := Q } (start N vs) H) :
    Kf P w K mg base (k + 1) x ps sp ∧ KfV P w K mg base (k + 1) x ps ks sp := by
  obtain ⟨f, fd, hm, F, b, bk⟩ := O
  have G := F.ok (P := P) (w := w) (mg := mg) (base := base) S len fun cdv A outer s H vs Q E hr h => hbody f cdv A outer s H vs Q E trivial hr h
  exact ⟨⟨f, fd, hm, F.kp, b, G⟩, ⟨f, fd, hm, F.kp, bk, G⟩⟩
end
section
variable {X : Cx} {k j : Nat} {ps ks : List Str} {sp : Sp} {x : Str} {p pos : Pos} {kws : List Keyword} {t : TA}
theorem pe_kfV (F : KfV X.prog X.w X.K X.mg X.base k x ps ks sp) (hr : Room j X.A) (hg : Gl X x) (hkw : PK X kws t)
    (hl : ∀ vs H Q E, sp vs H Q E → vs.length = ks.length) (hj : k ≤ j := by decide) (hdb : (x == ("__debug__" : Str)) = false := by decide)
    (hks : (backToKw pos (keywordEach kws X.env)).filterMap (·.1) = ks := by rfl)
    (hall : (backToKw pos (keywordEach kws X.env)).all (·.1.isSome) = true := by rfl)
    (hpl : ((backTo pos (starEach [] X.env)).any (·.1) || (backToKw pos (keywordEach kws X.env)).any (·.1.isNone)) = false := by rfl)
    (hx : Passes CX0 X E0 := by exact pass0) :
    PE X (.Call (.Name x p) [] kws pos) (tCallV sp E0 t) := by
  obtain ⟨f, fd, hm, hk, hb, F⟩ := F
  have hr := hr.mono hj
  refine ⟨fun pins s σ H Q I h => ?_⟩
  refine wpAny_Call_Name_kw (ld_glob I hg hm ?_ hdb)
  refine PySem.W.callWith_KW0 (first := []) (h₀ := X.base) I.ok.mod.kin hk hall (thn (hkw.run pos pins s σ H _ I h) fun us s2 ⟨vs, H2, I2, r2, hsp⟩ => ⟨I2.kIn, ?_⟩) hpl
  rw [hks]
  have hn := hl _ _ _ _ hsp
  rw [List.length_reverse] at hn
  refine wpAny_call (codeAny_mono (F.run X.A X.stack s2 H2 ⟨[], ks.zip us⟩ us.reverse vs.reverse Q E0 hr I2.env0 (hb s2 us (by
    rw [← Paired.length r2]
    exact hn)) (vals_rev r2) hsp) fun r s' hq => ?_)
  cases r with
  | error e => exact hx pins σ H2 s2 e s' I2 hq
  | ok fl =>
    cases fl with
    | ret u => exact I2.after hq
    | next => exact False.elim hq
    | brk => exact False.elim hq
    | cont => exact False.elim hq
end
end L2

/-! own rules 39: defs that raise, called by position and by keywords in the contrary order; isinstance(e, (A, B)) of an exception that is kept -/
namespace L2
open PySem PySem.Spec PyProof.Rows
def KfX (P : Program) (w : World) (K : PySem.W.Frag) (mg : Str → Option Value) (base : Heap) (k : Nat) (x : Str) (ps : List Str) (sp : Sp) : Prop :=
  ∃ f fd, mg x = some (.ref f) ∧ PySem.W.keepIn K (.ref f) = true ∧ Binds K fd ps [] ∧ FnOk P w K mg base (L2.CX P w) k f fd ps sp
def KfXV (P : Program) (w : World) (K : PySem.W.Frag) (mg : Str → Option Value) (base : Heap) (k : Nat) (x : Str) (ps ks : List Str) (sp : Sp) : Prop :=
  ∃ f fd, mg x = some (.ref f) ∧ PySem.W.keepIn K (.ref f) = true ∧ KwB fd ps ks ∧ FnOk P w K mg base (L2.CX P w) k f fd ps sp
section
variable {P : Program} {w : World} {K : PySem.W.Frag} {mg : Str → Option Value} {base : Heap}
theorem OwnD.okX {x : Str} {st : Stmt} {N ps : List Str} {k : Nat} {sp : Sp} (O : OwnD K mg x st ps)
    (S : FnScope N ps (defScope st)) (len : ∀ vs H Q E, sp vs H Q E → vs.length = ps.length)
    (hbody : ∀ (f : Addr) (cdv : Value) (A : Around) (outer : List Env) (s : Shared) (H : Hp) (vs : List V) (Q : VK)
      (E : XK), True →
      Room k (A.deeper (envOfC x (defScope st) s.heap.objs.size f cdv)) → sp vs H Q E →
      ∃ t, PSs (cxOf (L2.CX P w) P w K mg base N x (defScope st) f cdv A outer s H E) (defBody st) t ∧
        t { nx := fun _ H' => Q .non H', rt := Q } (start N vs) H) :
    KfX P w K mg base (k + 1) x ps sp := by
  obtain ⟨f, fd, hm, F, b⟩ := O
  exact ⟨f, fd, hm, F.kp, b, F.okX S len fun cdv A outer s H vs Q E hr h => hbody f cdv A outer s H vs Q E trivial hr h⟩
theorem OwnK.okX {x : Str} {st : Stmt} {N ps ks : List Str} {k : Nat} {sp : Sp} (O : OwnK K mg x st ps ks)
    (S : FnScope N ps (defScope st)) (len : ∀ vs H Q E, sp vs H Q E → vs.length = ps.length)
    (hbody : ∀ (f : Addr) (cdv : Value) (A : Around) (outer : List Env) (s : Shared) (H : Hp) (vs : List V) (Q : VK)
      (E : XK), True →
      Room k (A.deeper (envOfC x (defScope st) s.heap.objs.size f cdv)) → sp vs H Q E →
      ∃ t, PSs (cxOf (L2.CX P w) P w K mg base N x (defScope st) f cdv A outer s H E) (defBody st) t ∧
        t { nx := fun _ H' => Q .non H', rt := Q } (start N vs) H) :
    KfX P w K mg base (k + 1) x ps sp ∧ KfXV P w K mg base (k + 1) x ps ks sp := by
  obtain ⟨f, fd, hm, F, b, bk⟩ := O
  have G := F.okX (P := P) (w := w) (mg := mg) (base := base) S len fun cdv A outer s H vs Q E hr h => hbody f cdv A outer s H vs Q E trivial hr h
  exact ⟨⟨f, fd, hm, F.kp, b, G⟩, ⟨f, fd, hm, F.kp, bk, G⟩⟩
end
def tCallVX (sp : Sp) (E : XK) (t : TA) : TE := fun σ H Q => t σ H fun vs H1 => sp vs.reverse H1 Q E
section
variable {X : Cx} {k j : Nat} {ps ks : List Str} {sp : Sp} {x : Str} {p pos : Pos} {e : Expr} {es : List Expr} {kws : List Keyword} {t : TA} {E : XK}
theorem pe_kfX (F : KfX X.prog X.w X.K X.mg X.base k x ps sp) (hr : Room j X.A) (hx : Passes (L2.CX X.prog X.w) X E)
    (hg : Gl X x) (ha : PA X (e :: es) t) (hj : k ≤ j := by decide)
    (hdb : (x == ("__debug__" : Str)) = false := by decide)
    (he : starEach (e :: es) X.env = (false, eval e X.env) :: starEach es X.env := by rfl)
    (hpl : (backTo pos (starEach es X.env)).any (·.1) = false := by rfl) :
    PE X (.Call (.Name x p) (e :: es) [] pos) (tCall sp [] E t) := by
  obtain ⟨f, fd, hm, hk, hb, G⟩ := F
  exact pe_call G (hr.mono hj) hg hm hk hb .nil hx ha hdb he hpl
theorem pe_kfXV (F : KfXV X.prog X.w X.K X.mg X.base k x ps ks sp) (hr : Room j X.A) (hx : Passes (L2.CX X.prog X.w) X E) (hg : Gl X x) (hkw : PK X kws t)
    (hl : ∀ vs H Q E, sp vs H Q E → vs.length = ks.length) (hj : k ≤ j := by decide) (hdb : (x == ("__debug__" : Str)) = false := by decide)
    (hks : (backToKw pos (keywordEach kws X.env)).filterMap (·.1) = ks := by rfl)
    (hall : (backToKw pos (keywordEach kws X.env)).all (·.1.isSome) = true := by rfl)
    (hpl : ((backTo pos (starEach [] X.env)).any (·.1) || (backToKw pos (keywordEach kws X.env)).any (·.1.isNone)) = false := by rfl) :
    PE X (.Call (.Name x p) [] kws pos) (tCallVX sp E t) := by
  obtain ⟨f, fd, hm, hk, hb, F⟩ := F
  have hr := hr.mono hj
  refine ⟨fun pins s σ H Q I h => ?_⟩
  refine wpAny_Call_Name_kw (ld_glob I hg hm ?_ hdb)
  refine PySem.W.callWith_KW0 (first := []) (h₀ := X.base) I.ok.mod.kin hk hall (thn (hkw.run pos pins s σ H _ I h) fun us s2 ⟨vs, H2, I2, r2, hsp⟩ => ⟨I2.kIn, ?_⟩) hpl
  rw [hks]
  have hn := hl _ _ _ _ hsp
  rw [List.length_reverse] at hn
  refine wpAny_call (codeAny_mono (F.run X.A X.stack s2 H2 ⟨[], ks.zip us⟩ us.reverse vs.reverse Q E hr I2.env0 (hb s2 us (by
    rw [← Paired.length r2]
    exact hn)) (vals_rev r2) hsp) fun r s' hq => ?_)
  cases r with
  | error e => exact hx pins σ H2 s2 e s' I2 hq
  | ok fl =>
    cases fl with
    | ret u => exact I2.after hq
    | next => exact False.elim hq
    | brk => exact False.elim hq
    | cont => exact False.elim hq
end
/-- isinstance(e, (A, ..)), e kept -/
def rIswT (K : PySem.W.Frag) : List V → Hp → VK → Prop := fun xs H Q =>
  ∃ (a C dx : Addr) (fs : List (Str × V)) (tp : Addr) (cs : List V) (us : List Value) (b : Bool), xs = [.ref a, .ref tp] ∧ XCl K C ∧
    H a = some (exc a C (some dx)) ∧ H dx = some (.xd fs) ∧ H tp = some (.tup cs) ∧ Paired ClsV cs us ∧ PySem.W.kitAny K (.ref C) us = some b ∧ Q (.bl b) H
theorem call_iswT {X : Cx} : CallR X (.builtin "isinstance") (rIswT X.K) := by
  intro pins s σ H xs us Q I r h
  obtain ⟨a, C, dx, fs, tp, cs, ws, b, rfl, T, ha, hd, hT, k, e, q⟩ := h
  obtain ⟨u1, u2, rfl, r1, r2⟩ := vals2 r
  obtain rfl : u1 = Value.ref a := r1
  cases (show u2 = Value.ref tp from r2)
  obtain ⟨oe, od, _, J, _⟩ := inst_exc I.hok ha hd
  obtain ⟨_, its, rv, o, h1, h2, n, h3⟩ := (show ObjOk X.prog X.w H s.heap tp (.tup cs) from I.hok tp _ hT)
  have e3 := ClsV.all k rv
  subst e3
  obtain ⟨oc, od2, dt, sl⟩ := o
  simp only at h2 h3
  subst h2 h3
  exact PySem.W.kia_tup (PySem.W.kitx_exc T.ci T.ga T.gg T.ex T.ca T.cn T.ct T.co) I.kIn J h1 e (fun z => nomatch z)
    fun tk => ⟨.bl b, H, I.tok tk, rfl, q⟩
end L2

/-! own rules 40: t[a::s] of a tuple, s > 1 -/
namespace L2
open PySem PySem.Spec PyProof.Rows HT
theorem vals_at : ∀ {xs : List V} {us : List Value}, Vals xs us → ∀ j : Nat, (xs[j]? = none ∧ us[j]? = none) ∨ ∃ x u, xs[j]? = some x ∧ us[j]? = some u ∧ RelV x u
  | _, _, .nil, j => .inl ⟨rfl, rfl⟩
  | _, _, .cons r t, 0 => .inr ⟨_, _, rfl, rfl, r⟩
  | _, _, .cons r t, j + 1 => by
    simpa using vals_at t j
theorem vals_fm {xs : List V} {us : List Value} (h : Vals xs us) (f : Nat → Nat) : ∀ L : List Nat, Vals (L.filterMap fun k => xs[f k]?) (L.filterMap fun k => us[f k]?)
  | [] => .nil
  | k :: L => by
    rw [List.filterMap_cons, List.filterMap_cons]
    rcases vals_at h (f k) with ⟨e1, e2⟩ | ⟨x, u, e1, e2, r⟩
    · rw [e1, e2]
      exact vals_fm h f L
    · rw [e1, e2]
      exact .cons r (vals_fm h f L)
def adjS (i st : Int) (n : Nat) : Int := (Builtin.Slice.sliceAdjust (some i) none st (n : Int)).1
def plcS (i st : Int) (n : Nat) : Nat := Builtin.Slice.slicePlaces (Builtin.Slice.sliceAdjust (some i) none st (n : Int)).1 (Builtin.Slice.sliceAdjust (some i) none st (n : Int)).2 st
/-- the items of t[i::st] -/
def pickS {α : Type} (xs : List α) (i st : Int) : List α := (List.range (plcS i st xs.length)).filterMap fun (k : Nat) => xs[(adjS i st xs.length + (k : Int) * st).toNat]?
section
variable {prog : Program} {w : World} {A : Around} {E : Value → Shared → Prop} {s : Shared}
theorem getItem_tuple_step {t sl : Addr} {items : Array Value} {vl vs : Value} {i st : Int} {Q : Value → Shared → Prop} (ht : IsTup s.heap t items) (hs : s.heap.IsSliceOf sl vl .none vs) (pl : IsPart vl (some i)) (ps : IsPart vs (some st)) (h1 : 1 < st)
    (h : Q (.ref s.heap.objs.size) { s with heap := s.heap.push { cls := .type "tuple", data := .seq (pickS items.toList i st).toArray } })
    (hsz : (pickS items.toList i st).length ≤ sizeLine) : wpAny (model prog w) A (getItem (.ref t) (.ref sl)) Q E s := by
  have htake : sizeOk (.seq (pickS items.toList i st).toArray) := by
    show (pickS items.toList i st).toArray.size ≤ sizeLine
    rw [List.size_toArray]
    exact hsz
  obtain ⟨os, hos, hcs, hds⟩ := id hs
  have hTs : s.TypeIs (.ref sl) "slice" := ⟨os, hos, hcs⟩
  unfold getItem
  try with_reducible refine wpAny_holding ?_
  first | refine wpAny_bind (wpAny_pure ?_) | skip
  refine wpAny_bind (wpAny_sequenceKey ht.typeIs (by decide) ?_)
  refine wpAny_bind (wpAny_callSpecial?_slot (name := Str.ofString "__getitem__") ht.typeIs PyProof.Rows.slot_tuple_getitem
    (wpAny_call_entry PyProof.Rows.slot_tuple_getitem ht.typeIs entry_tuple_getitem ?_ (args_tuple_getitem _ _)))
  show wpAny _ _ (Builtin.Tuple.tupleItemsOf (.ref t) >>= _) _ _ s
  refine wpAny_bind (tupleItemsOf_ ht ?_)
  refine wpAny_bind (wpAny_typeOf hTs ?_)
  rw [if_pos (by decide)]
  have hap : ∀ {A' : Around} {Q' : Int × Int × Nat → Shared → Prop}, Q' (adjS i st items.size, st, plcS i st items.size) s → wpAny (model prog w) A' (Builtin.Slice.sliceApplied (.ref sl) (pure (items.size : Int))) Q' E s := by
    intro A' Q' hq
    unfold Builtin.Slice.sliceApplied Builtin.Slice.sliceFields
    refine wpAny_bind (wpAny_bind (wpAny_field hos hds (x := vl) rfl (wpAny_bind (wpAny_field hos hds (x := .none) rfl (wpAny_bind (wpAny_field hos hds (x := vs) rfl (wpAny_pure ?_)))))))
    refine wpAny_bind (slicePart_ ps ?_)
    show wpAny _ _ (if (st == 0) = true then _ else _) _ _ s
    rw [if_neg (by simp; omega)]
    exact wpAny_bind (slicePart_ pl (wpAny_bind (slicePart_none (wpAny_bind (wpAny_pure (wpAny_pure hq))))))
  refine wpAny_bind (hap ?_)
  have hno : ¬ ((adjS i st items.size == 0 && st == 1 && plcS i st items.size == items.size) = true) := by
    intro q
    rw [Bool.and_eq_true, Bool.and_eq_true] at q
    have q1 : st = 1 := eq_of_beq q.1.2
    omega
  show wpAny _ _ (if (adjS i st items.size == 0 && st == 1 && plcS i st items.size == items.size) = true then _ else _) _ _ s
  rw [if_neg hno]
  have e : ((List.range (plcS i st items.size)).filterMap fun (k : Nat) => items[(adjS i st items.size + (k : Int) * st).toNat]?).toArray = (pickS items.toList i st).toArray := by
    unfold pickS
    rw [Array.length_toList]
    congr 2
    funext k
    rw [Array.getElem?_toList]
  rw [e]
  first
    | exact wpAny_bind (m := Builtin.Tuple.tupleExact _) (wpAny_newObj_type (wpAny_pure ⟨_, rfl, wpAny_pure h⟩) htake)
    | exact wpAny_bind (m := Builtin.Tuple.tupleExact _) (wpAny_newObj_type (wpAny_bind (wpAny_pure (wpAny_pure ⟨_, rfl, wpAny_pure h⟩))) htake)
    | exact wpAny_bind (wpAny_bind (m := Builtin.Tuple.tupleExact _) (wpAny_newObj_type (wpAny_pure (wpAny_pure ⟨_, rfl, wpAny_pure h⟩)) htake))
    | exact wpAny_bind (wpAny_bind (m := Builtin.Tuple.tupleExact _) (wpAny_newObj_type (wpAny_pure ⟨_, rfl, wpAny_pure h⟩) htake))
end
/-- t[a::s] -/
def tSl3 (K : PySem.W.Frag) (te tl ts : TE) : TE := fun σ H Q => te σ H fun x H1 => tPart tl σ H1 fun l H2 => tPart ts σ H2 fun z H3 => ∃ i st, l = some i ∧ z = some st ∧ 1 < st ∧ ∃ a xs, x = .ref a ∧ SqT K H3 a xs ∧
  (pickS xs i st).length ≤ sizeLine ∧ ∀ p, H3 p = none → Q (.ref p) (upd H3 p (.tup (pickS xs i st)))
theorem pe_sl3 {X : Cx} {e l z : Expr} {te tl ts : TE} {p2 pos : Pos} (he : PE X e te) (hl : PE X l tl) (hs : PE X z ts) : PE X (.Subscript e (.Slice (some l) none (some z) p2) pos) (tSl3 X.K te tl ts) := by
  refine ⟨fun pins s σ H Q I h => ?_⟩
  refine Subscript_ (thn (he.run pins s σ H _ I h) fun v s1 ⟨x, H1, I1, r1, q1⟩ => ?_)
  refine wpAny_Slice (thn ((po_some hl).run pins s1 σ H1 _ I1 q1) fun vl s2 ⟨l, H2, I2, pl, q2⟩ => ?_)
  refine thn (po_none.run pins s2 σ H2 (fun o H3 => o = none ∧ H3 = H2) I2 ⟨rfl, rfl⟩) fun vu s3 ⟨u, H3, I3, pu, eu, e3⟩ => ?_
  subst eu e3
  refine thn ((po_some hs).run pins s3 σ H3 _ I3 q2) fun vs s4 ⟨o, H4, I4, ps, i, st, el, ez, h1, a, xs, ex, hx, hz, q⟩ => ?_
  subst el ez ex
  cases r1
  have I5 : Inv X pins σ H4 { s4 with heap := s4.heap.push { cls := .type "slice", data := .fields #[vl, vu, vs] } } := I4.kept (t' := s4.toks) fun b ob q => Heap.get?_push_of_some _ q
  obtain ⟨its, r, ht, hzz⟩ := I5.tuple hx
  have hlen := r.length
  cases pu
  show wpAny (model X.prog X.w) X.A (subscriptTail e _ (.ref a) (.ref s4.heap.objs.size)) (EP X pins σ Q) X.xe { s4 with heap := s4.heap.push { cls := .type "slice", data := .fields #[vl, .none, vs] } }
  refine tail_any (ops := [.ref a, .ref s4.heap.objs.size]) ht.typeIs (PyProof.Rows.slot_tuple_getitem.lookup) ?_ (by with_unfolding_all rfl)
  have hv : Vals (pickS xs i st) (pickS its i st) := by
    unfold pickS
    rw [← hlen]
    exact vals_fm r _ _
  refine getItem_tuple_step (items := its.toArray) ht (Heap.IsSliceOf.new _ vl .none vs) pl ps h1 ?_ (by
    rw [show its.toArray.toList = its from rfl, ← hv.length]
    exact hz)
  rw [show its.toArray.toList = its from rfl]
  refine ⟨.ref _, _, I5.laid (t' := s4.toks) (o := .tup (pickS xs i st)) (fun b ob q => Heap.get?_push_of_some _ q) (Nat.le_refl _) ?_, rfl, q _ (I5.hok.fresh (Nat.le_refl _))⟩
  exact ⟨hz, _, hv, IsTup.new _ _⟩
end L2

/-! own rules 41: for .. in zip(a list, a text), the text no longer than the list -/
namespace L2
open PySem PySem.Spec PyProof.Rows
/-- each item of a list with a sign of a text in a new pair -/
def ItzS (K : PySem.W.Frag) (a : Addr) (z : Str) : It :=
  ⟨fun i H => ∃ (xs : List V) (x : V), SqL K H a xs ∧ xs[i]? = some x ∧ i < z.cps.size,
    fun i H v H' => ∃ T x c, v = .ref T ∧ H T = none ∧ H' = upd H T (.tup [x, .str ⟨#[c]⟩]) ∧ (∀ xs, SqL K H a xs → xs[i]? = some x) ∧ z.cps[i]? = some c,
    fun i H => ∃ xs : List V, SqL K H a xs ∧ i ≤ xs.length ∧ i = z.cps.size⟩
structure ZipL (z TI TO i1 i2 a : Addr) : Prop where
  S : ZipSep2 z TI TO i1 i2 [i1, a] [i2]
  ai : a ≠ i1
theorem turn_zipS {P : Program} {w : World} {K : PySem.W.Frag} {elts : List Expr} {kk : Nat} {tpos : Pos} {a zz TI TO i1 i2 : Addr} (z : Str) (t : Tok) (D : ZipL zz TI TO i1 i2 a) :
    Turn P w K (.Tuple elts kk tpos) (ItzS K a z) [zz, TI, TO, i1, i2] zz (fun i h => IsZip h zz TI TO .none ∧ IsTupOf2 h TI (.ref i1) (.ref i2) ∧ (∃ x y, IsTupOf2 h TO x y) ∧ h.IsListIter i1 a i ∧ h.IsStrIter i2 (strIterType z) z t i) where
  mem := by simp
  obj := fun i h st c hc => by
    obtain ⟨hz, hTI, ⟨x, y, hTO⟩, ⟨o1, e1, _, d1⟩, ⟨o2, e2, _, d2⟩⟩ := st
    have e' : c = zz ∨ c = TI ∨ c = TO ∨ c = i1 ∨ c = i2 := by simpa using hc
    rcases e' with q | q | q | q | q
    · rw [q]; exact ⟨_, hz, fun v q => nomatch q⟩
    · rw [q]; exact ⟨_, hTI, fun v q => nomatch q⟩
    · rw [q]; exact ⟨_, hTO, fun v q => nomatch q⟩
    · rw [q]; exact ⟨o1, e1, fun v q => by rw [d1] at q; cases q⟩
    · rw [q]; exact ⟨o2, e2, fun v q => by rw [d2] at q; cases q⟩
  keep := fun i h h' st k => by
    obtain ⟨hz, hTI, ⟨x, y, hTO⟩, h1, ⟨o2, e2, r2⟩⟩ := st
    exact ⟨k zz (by simp) _ hz, k TI (by simp) _ hTI, ⟨x, y, k TO (by simp) _ hTO⟩, h1.at fun o q => k i1 (by simp) o q, ⟨o2, k i2 (by simp) o2 e2, r2⟩⟩
  item := by
    intro X hP hw hK hc i pins s σ H E I hf st hg
    subst hP hw hK
    obtain ⟨hz, hTI, ⟨x0, y0, hTO⟩, h1, h2⟩ := st
    obtain ⟨xs, x, hqx, hx, hlt⟩ := hg
    obtain ⟨its, rv, p, _⟩ := I.list hqx
    obtain ⟨u, hu, ru⟩ := rv.get hx
    have hi1 : i < its.toArray.size := by
      rw [List.size_toArray]
      rcases Nat.lt_or_ge i its.length with h | h
      · exact h
      · rw [List.getElem?_eq_none h] at hu
        cases hu
    have hzl : zz < s.heap.objs.size := Heap.lt_size hz
    have hh : X.A.handled = none := I.ok.hd hc
    refine wpAny_pyNext_zipD2_item D.S (Draws.list (by exact hh) i1 a D.ai its.toArray) (Draws.text (by exact hh) i2 z t) hz hTI hTO ⟨h1, p.isList⟩ h2 hi1 hlt fun u1 u2 h' tk y1 y2 z' TO' h1' h2' hT hsz hk => ?_
    obtain ⟨c, tu, hcc, rfl⟩ := y2
    have hu1 : u1 = u := by
      have y1' : its[i]? = some u1 := by simpa using y1
      rw [hu] at y1'
      exact (Option.some.inj y1').symm
    subst hu1
    refine ⟨_, rfl, wpAny_letOwnedTupleGo_zip (s := { s with heap := h', toks := tk }) z' fun h'' z'' sb => ?_⟩
    have hT2 : h''.get? s.heap.objs.size = some { cls := .type "tuple", data := .seq #[u1, .str ⟨#[c]⟩ tu] } := (sb.2 _ (Nat.ne_of_gt hzl)).trans hT
    have new : ObjOk X.prog X.w (upd H s.heap.objs.size (.tup [x, .str ⟨#[c]⟩])) h'' s.heap.objs.size (.tup [x, .str ⟨#[c]⟩]) :=
      ⟨by show 2 ≤ sizeLine; decide, [u1, .str ⟨#[c]⟩ tu], .cons ru (.cons ⟨_, rfl⟩ .nil), ⟨_, hT2, rfl, _, rfl⟩⟩
    have I1 : Inv X pins σ (upd H s.heap.objs.size (.tup [x, .str ⟨#[c]⟩])) { s with heap := h'', toks := tk } :=
      I.turnedNew (ch := [zz, TI, TO, i1, i2]) (fun c o hb q => (sb.2 c (fun q' => hb (by simp [q']))).trans (hk c o (fun q' => hb (by simp [q'])) (fun q' => hb (by simp [q'])) (fun q' => hb (by simp [q'])) (fun q' => hb (by simp [q'])) q)) hf (Nat.le_refl _) new
    refine ⟨.ref s.heap.objs.size, _, I1, rfl, ⟨_, x, c, rfl, I.hok.fresh (Nat.le_refl _), rfl, fun l hl => ?_, hcc⟩, ⟨z'', ?_, ⟨u1, .str ⟨#[c]⟩ tu, ?_⟩, ?_, ?_⟩, fun c hcm => ?_⟩
    · rw [I.list_inj hl hqx]
      exact hx
    · exact (sb.2 _ D.S.TIz).trans (hk _ _ D.S.TIz D.S.TITO D.S.TIi1 D.S.TIi2 hTI)
    · exact (sb.2 _ D.S.TOz).trans TO'
    · exact h1'.1.at fun o q => (sb.2 _ (Ne.symm D.S.zi1)).trans q
    · obtain ⟨o, ho, r⟩ := h2'
      exact ⟨o, (sb.2 _ (Ne.symm D.S.zi2)).trans ho, r⟩
    · have hlt : c < s.heap.objs.size := by
        have e' : c = zz ∨ c = TI ∨ c = TO ∨ c = i1 ∨ c = i2 := by simpa using hcm
        rcases e' with q | q | q | q | q
        · rw [q]; exact hzl
        · rw [q]; exact Heap.lt_size hTI
        · rw [q]; exact Heap.lt_size hTO
        · rw [q]; obtain ⟨_, e1, _⟩ := h1; exact Heap.lt_size e1
        · rw [q]; obtain ⟨_, e2, _⟩ := h2; exact Heap.lt_size e2
      rw [upd_ne (Nat.ne_of_lt hlt)]
      exact (hf c hcm).1
  done := by
    intro X hP hw hK hc i pins s σ H E I hf st hg
    subst hP hw hK
    obtain ⟨hz, hTI, ⟨x0, y0, hTO⟩, h1, h2⟩ := st
    obtain ⟨xs, hqx, hle, he⟩ := hg
    obtain ⟨its, rv, p, _⟩ := I.list hqx
    have l1 := rv.length
    have hh : X.A.handled = none := I.ok.hd hc
    exact wpAny_pyNext_zipD2_end D.S (Draws.list (by exact hh) i1 a D.ai its.toArray) (Draws.text (by exact hh) i2 z t) hz hTI hTO ⟨h1, p.isList⟩ h2 (by rw [List.size_toArray]; omega) (by omega) (.inr he) fun h' tk hk => ⟨rfl, I.turnedL (ch := [zz, TI, TO, i1, i2]) (fun c o hb q =>
      hk c o (fun q' => hb (by simp [q'])) (fun q' => hb (by simp [q'])) (fun q' => hb (by simp [q'])) (fun q' => hb (by simp [q'])) q) hf⟩
  self := fun A i s Q E st h => wpAny_pyIter_zip st.1 h
theorem zipL_of {n a : Nat} (la : a < n) : ZipL (n + 4) (n + 2) (n + 3) n (n + 1) a := by
  have n0 : ∀ k : Nat, n + (k + 1) ≠ n := fun k => by omega
  have n1 : ∀ k : Nat, n + k ≠ a := fun k => by omega
  have n2 : n ≠ a := by omega
  have n3 : a ≠ n := by omega
  have n4 : ∀ i j : Nat, i ≠ j → n + i ≠ n + j := fun i j h => by omega
  have mem2 : ∀ {x : Nat}, x ≠ n → x ≠ a → x ∉ ([n, a] : List Nat) := fun h1 h2 h => by
    simp only [List.mem_cons, List.not_mem_nil, or_false] at h
    exact h.elim h1 h2
  have mem1 : ∀ {x : Nat}, x ≠ n + 1 → x ∉ ([n + 1] : List Nat) := fun h1 h => h1 (List.mem_singleton.mp h)
  exact ⟨⟨n4 2 4 (by decide), n4 3 4 (by decide), n4 2 3 (by decide), n0 1, List.mem_cons_self, mem2 (n0 3) (n1 4), mem2 (n0 2) (n1 3), n4 2 1 (by decide), List.mem_cons_self, mem1 (n4 4 1 (by decide)), mem1 (n4 3 1 (by decide)), mem1 (Ne.symm (n0 0)), mem2 (n0 0) (n1 1)⟩, n3⟩
def iZipS (K : PySem.W.Frag) (ta : TA) : TI := fun σ H R => ta σ H fun vs H1 => ∃ a z xs, vs = [.ref a, .str z] ∧ SqL K H1 a xs ∧ R (ItzS K a z) H1
theorem pi_zipS {X : Cx} {e e2 : Expr} {ta : TA} {p pos tpos : Pos} {elts : List Expr} {kk : Nat} (hg : Gl X "zip") (hm : X.mg "zip" = none) (ha : PA X [e, e2] ta)
    (hs : starEach [e, e2] X.env = (false, eval e X.env) :: starEach [e2] X.env := by rfl) (hpl : (backTo pos (starEach [e2] X.env)).any (·.1) = false := by rfl) :
    PI X (.Tuple elts kk tpos) (.Call (.Name "zip" p) [e, e2] [] pos) (iZipS X.K ta) := by
  refine ⟨fun pins s σ H R I h => ?_⟩
  refine Call_ (ld_blt I hg hm PyProof.Rows.boot_zip (PyProof.Rows.callWith_type1 (thn (ha.run pos pins s σ H _ I h) fun us s1 ⟨vs, H1, I1, r1, q1⟩ => ?_) hs hpl))
  obtain ⟨a, z, xs, ex, hqx, q⟩ := q1
  subst ex
  obtain ⟨u1, u2, rfl, r, r'⟩ := vals2 r1
  obtain rfl : u1 = Value.ref a := r
  obtain ⟨t, rfl⟩ := r'
  have fresh5 : ∀ c, c ∈ [s1.heap.objs.size + 4, s1.heap.objs.size + 2, s1.heap.objs.size + 3, s1.heap.objs.size, s1.heap.objs.size + 1] → FpOk X pins H1 c := fun c hcm => by
    have e' : c = s1.heap.objs.size + 4 ∨ c = s1.heap.objs.size + 2 ∨ c = s1.heap.objs.size + 3 ∨ c = s1.heap.objs.size ∨ c = s1.heap.objs.size + 1 := by simpa using hcm
    have hle : s1.heap.objs.size ≤ c := by
      rcases e' with z | z | z | z | z
      · rw [z]; exact Nat.le_add_right _ _
      · rw [z]; exact Nat.le_add_right _ _
      · rw [z]; exact Nat.le_add_right _ _
      · rw [z]; exact Nat.le_refl _
      · rw [z]; exact Nat.le_add_right _ _
    exact I1.fpOk hle (I1.hok.fresh hle)
  obtain ⟨its, rv, p1, _⟩ := I1.list hqx
  have la : a < s1.heap.objs.size := p1.lt
  refine zip_begins2 (begins_list a its.toArray) (begins_text z t) p1.isList True.intro fun h' hz hTI hTO h1 h2 hsz hk => wpAny_pyIter_zip hz ?_
  have I2 : Inv X pins σ H1 { s1 with heap := h' } := I1.kept (t' := s1.toks) hk
  have D : ZipL (s1.heap.objs.size + 4) (s1.heap.objs.size + 2) (s1.heap.objs.size + 3) s1.heap.objs.size (s1.heap.objs.size + 1) a := by
    exact zipL_of la
  exact ⟨s1.heap.objs.size + 4, [s1.heap.objs.size + 4, s1.heap.objs.size + 2, s1.heap.objs.size + 3, s1.heap.objs.size, s1.heap.objs.size + 1], _, _, H1, rfl, I2, turn_zipS z t D, ⟨hz, hTI, ⟨_, _, hTO⟩, ⟨_, h1, rfl, rfl⟩, ⟨_, h2, rfl, rfl⟩⟩, fresh5, q⟩
theorem walk_zipS {K : PySem.W.Frag} {a : Addr} {z : Str} {xs : List V} (hl : z.cps.size ≤ xs.length) : Walk (ItzS K a z) z.cps.size (fun H => SqL K H a xs)
    (YPair (fun i => xs[i]?) (fun i => (z.cps[i]?).map fun c => V.str ⟨#[c]⟩)) := by
  refine ⟨fun i H hi q => ⟨xs, xs[i], q, by simp [show i < xs.length by omega], hi⟩, fun _ q => ⟨xs, q, hl, rfl⟩, fun i H x H' _ q ⟨T, y, c, h1, h2, h3, h4, h5⟩ => ⟨T, _, _, h1, h2, h3, h4 xs q, by show (z.cps[i]?).map _ = _; rw [h5]; rfl⟩⟩
end L2

/-! own rules 42: {(..): v, (..): w}, two entries whose keys are tuples -/
namespace L2
open PySem PySem.Spec PyProof.Rows
def tDispT2 (tk tv tk2 tv2 : TE) : TE := fun σ H Q => ∀ p, H p = none → tk σ (upd H p (.dT [])) fun x H1 => tv σ H1 fun y H2 => tk2 σ H2 fun x2 H3 => tv2 σ H3 fun y2 H4 => ∃ b k b2 k2, x = .ref b ∧ x2 = .ref b2 ∧
  H4 b = some (.tup (k.map kV)) ∧ H4 b2 = some (.tup (k2.map kV)) ∧ H4 p = some (.dT []) ∧ Q (.ref p) (upd H4 p (.dT (putK (putK [] k y) k2 y2)))
theorem pe_dispT2 {X : Cx} {pos : Pos} {k v k2 v2 : Expr} {tk tv tk2 tv2 : TE} (hu : X.A.units + 2 < cLine) (hk : PE X k tk) (hv : PE X v tv) (hk2 : PE X k2 tk2) (hv2 : PE X v2 tv2) : PE X (.Dict [some k, some k2] [v, v2] pos) (tDispT2 tk tv tk2 tv2) := by
  refine ⟨fun pins s σ H Q I q => ?_⟩
  have hn := I.hok.fresh (Nat.le_refl s.heap.objs.size)
  have I1 := I.laid (a := s.heap.objs.size) (o := .dT []) (h' := s.heap.push { cls := .type "dict", data := .dict #[] }) (t' := s.toks) (fun _ _ q => Heap.get?_push_of_some _ q) (Nat.le_refl _) (dt_empty s.heap I.big)
  rw [arm_eval_Dict, zip_pairTrees [some k, some k2] [v, v2] X.env pos rfl rfl, dictDisplay_pairs _ (by
    intro z
    have := pairTrees_length [some k, some k2] [v, v2] X.env pos rfl rfl
    rw [z] at this
    cases this) (by
    rw [pairTrees_length [some k, some k2] [v, v2] X.env pos rfl rfl]
    show 2 < 17
    decide)]
  refine wpAny_bind (wpAny_standAt (wpAny_bind (wpAny_subDictH (knd := tupleKind (mixKind X.prog X.w)) (Q := fun d s' => wpAny (model X.prog X.w) X.A (pure (Value.ref d)) (EP X pins σ Q) X.xe s')
    (show X.A.units < cLine from Nat.lt_of_le_of_lt (Nat.le_add_right _ _) hu) (by rw [pairTrees_length [some k, some k2] [v, v2] X.env pos rfl rfl]; show 2 ≤ 15; decide) ?_)))
  refine pairTrees_cons_walk (thn (hk.run pins _ σ _ _ I1 (q _ hn)) fun u s1 ⟨x, H1, I2, rx, q1⟩ => thn (hv.run pins s1 σ H1 _ I2 q1) fun w1 s2 ⟨y, H2, I3, ry, q2⟩ =>
    pairTrees_cons_walk (thn (hk2.run pins s2 σ H2 _ I3 q2) fun u2 s3 ⟨x2, H3, I4, rx2, q3⟩ => thn (hv2.run pins s3 σ H3 _ I4 q3) fun w2 s4 ⟨y2, H4, I5, ry2, q4⟩ => pairTrees_nil_walk ?_))
  obtain ⟨b, ks, b2, ks2, rfl, rfl, eb, eb2, eD, q5⟩ := q4
  obtain rfl : u = Value.ref b := rx
  obtain rfl : u2 = Value.ref b2 := rx2
  obtain ⟨zl, notMods, xs, kt, dd⟩ := dt_of I5.hok eD
  cases kt
  refine ⟨[(ks, b, w1), (ks2, b2, w2)], ⟨rfl, rfl, key_of I5.hok eb, rfl, rfl, key_of I5.hok eb2, trivial⟩, dd, fun h' tk' dd' hs => wpAny_pure ⟨.ref _, _, ?_, rfl, q5⟩⟩
  have he : ∃ q, h'.get? s.heap.objs.size = some q := let ⟨q, _, _, hq, _⟩ := dd'; ⟨q, hq⟩
  obtain ⟨o, ents, ep, at_, c2, c3, c4, _, c5⟩ := dd'
  refine d_write I5 (by rw [eD]; trivial) hs he ⟨?_, notMods, _, (((KT.put (kvs := []) .nil ks eb ry).put ks2 eb2 ry2).keeps fun c ys ec => ?_), o, ents, ep, at_, c2, c3, c4, c5⟩
  · have lp : ∀ (kvs : List (List Key × V)) (k : List Key) (v : V), (putK kvs k v).length ≤ kvs.length + 1 := fun kvs k v => by
      unfold putK
      split
      · rw [List.length_map]
        omega
      · rw [List.length_append]
        exact Nat.le_refl _
    have l1 := lp (putK [] ks y) ks2 y2
    have l2 := lp [] ks y
    exact Nat.le_trans l1 (Nat.le_trans (Nat.succ_le_succ l2) (by show 2 ≤ sizeLine; decide))
  · exact upd_oth (fun z => by rw [z, eD] at ec; cases ec) ec
end L2

namespace KC
open PySem L2
local macro_rules | `(tactic| walk_at "hp") => `(tactic| first
  | assumption
  | exact upd_same
  | (refine upd_new (by assumption) ?_; walk_at "hp")
  | (refine upd_oth (by first | assumption | (apply Ne.symm; assumption)) ?_; walk_at "hp"))
def top (i : Nat) : Stmt := PySem.Challenge.pw_headgap_k25_runs_of_texts.main.body.getD i (.Pass ⟨0, 0, 0, 0⟩)
abbrev s_ipair : Stmt := top 22
abbrev n_ipair : List Str := ["value"]
theorem sc_ipair : FnScope n_ipair ["value"] (defScope s_ipair) :=
  ⟨rfl, rfl, rfl, by decide +kernel, rfl, by decide +kernel, by decide +kernel⟩

abbrev s_iletters : Stmt := top 23
abbrev n_iletters : List Str := ["value", "least", "most"]
theorem sc_iletters : FnScope n_iletters ["value", "least", "most"] (defScope s_iletters) :=
  ⟨rfl, rfl, rfl, by decide +kernel, rfl, by decide +kernel, by decide +kernel⟩

abbrev s_iletter : Stmt := top 24
abbrev n_iletter : List Str := ["value"]
theorem sc_iletter : FnScope n_iletter ["value"] (defScope s_iletter) :=
  ⟨rfl, rfl, rfl, by decide +kernel, rfl, by decide +kernel, by decide +kernel⟩

abbrev s_iname : Stmt := top 25
abbrev n_iname : List Str := ["value"]
theorem sc_iname : FnScope n_iname ["value"] (defScope s_iname) :=
  ⟨rfl, rfl, rfl, by decide +kernel, rfl, by decide +kernel, by decide +kernel⟩

abbrev s_ianswer : Stmt := top 26
abbrev n_ianswer : List Str := ["value"]
theorem sc_ianswer : FnScope n_ianswer ["value"] (defScope s_ianswer) :=
  ⟨rfl, rfl, rfl, by decide +kernel, rfl, by decide +kernel, by decide +kernel⟩

abbrev s_itext : Stmt := top 27
abbrev n_itext : List Str := ["value"]
theorem sc_itext : FnScope n_itext ["value"] (defScope s_itext) :=
  ⟨rfl, rfl, rfl, by decide +kernel, rfl, by decide +kernel, by decide +kernel⟩

abbrev s_igoal : Stmt := top 29
abbrev n_igoal : List Str := ["value"]
theorem sc_igoal : FnScope n_igoal ["value"] (defScope s_igoal) :=
  ⟨rfl, rfl, rfl, by decide +kernel, rfl, by decide +kernel, by decide +kernel⟩

abbrev s_asteps : Stmt := top 30
abbrev n_asteps : List Str := ["steps", "key"]
theorem sc_asteps : FnScope n_asteps ["steps"] (defScope s_asteps) :=
  ⟨rfl, rfl, rfl, by decide +kernel, rfl, by decide +kernel, by decide +kernel⟩

abbrev s_atails : Stmt := top 31
abbrev n_atails : List Str := ["tails", "name"]
theorem sc_atails : FnScope n_atails ["tails"] (defScope s_atails) :=
  ⟨rfl, rfl, rfl, by decide +kernel, rfl, by decide +kernel, by decide +kernel⟩

abbrev s_snames : Stmt := top 33
abbrev n_snames : List Str := ["start", "steps", "tails", "names", "state", "letter", "_", "to", "name"]
theorem sc_snames : FnScope n_snames ["start", "steps", "tails"] (defScope s_snames) :=
  ⟨rfl, rfl, rfl, by decide +kernel, rfl, by decide +kernel, by decide +kernel⟩

abbrev s_sletters : Stmt := top 34
abbrev n_sletters : List Str := ["steps", "found", "state", "letter"]
theorem sc_sletters : FnScope n_sletters ["steps"] (defScope s_sletters) :=
  ⟨rfl, rfl, rfl, by decide +kernel, rfl, by decide +kernel, by decide +kernel⟩

abbrev s_followed : Stmt := top 35
abbrev n_followed : List Str := ["converter", "start", "text", "written", "state", "at", "letter", "answer", "to"]
theorem sc_followed : FnScope n_followed ["converter", "start", "text"] (defScope s_followed) :=
  ⟨rfl, rfl, rfl, by decide +kernel, rfl, by decide +kernel, by decide +kernel⟩

abbrev s_init : Stmt := inClass (top 52) 3
abbrev n_init : List Str := ["self", "start", "steps", "tails", "states", "letters", "key", "state"]
theorem sc_init : FnScope n_init ["self", "start", "steps", "tails"] (defScope s_init) :=
  ⟨rfl, rfl, rfl, by decide +kernel, rfl, by decide +kernel, by decide +kernel⟩

abbrev s_takes : Stmt := inClass (top 52) 6
abbrev n_takes : List Str := ["self", "text"]
theorem sc_takes : FnScope n_takes ["self", "text"] (defScope s_takes) :=
  ⟨rfl, rfl, rfl, by decide +kernel, rfl, by decide +kernel, by decide +kernel⟩

abbrev s_call : Stmt := inClass (top 52) 15
abbrev n_call : List Str := ["self", "text", "written", "state", "many"]
theorem sc_call : FnScope n_call ["self", "text"] (defScope s_call) :=
  ⟨rfl, rfl, rfl, by decide +kernel, rfl, by decide +kernel, by decide +kernel⟩

abbrev s_lpen : Stmt := top 60
abbrev n_lpen : List Str := ["_law_script"]
theorem sc_lpen : FnScope n_lpen ["_law_script"] (defScope s_lpen) :=
  ⟨rfl, rfl, rfl, by decide +kernel, rfl, by decide +kernel, by decide +kernel⟩

abbrev s_ldraw : Stmt := top 61
abbrev n_ldraw : List Str := ["_law_pen_here", "_law_many", "_law_digit", "_law_turn", "_law_drawn", "_law_great", "_law_stirred"]
theorem sc_ldraw : FnScope n_ldraw ["_law_pen_here", "_law_many"] (defScope s_ldraw) :=
  ⟨rfl, rfl, rfl, by decide +kernel, rfl, by decide +kernel, by decide +kernel⟩

abbrev s_lpick : Stmt := top 62
abbrev n_lpick : List Str := ["_law_pen_here", "_law_some"]
theorem sc_lpick : FnScope n_lpick ["_law_pen_here", "_law_some"] (defScope s_lpick) :=
  ⟨rfl, rfl, rfl, by decide +kernel, rfl, by decide +kernel, by decide +kernel⟩

abbrev s_lplan : Stmt := top 63
abbrev n_lplan : List Str := ["_law_pen_here", "_law_most", "_law_states", "_law_letters_here", "_law_steps", "_law_tails", "_law_state", "_law_letter"]
theorem sc_lplan : FnScope n_lplan ["_law_pen_here", "_law_most"] (defScope s_lplan) :=
  ⟨rfl, rfl, rfl, by decide +kernel, rfl, by decide +kernel, by decide +kernel⟩

abbrev s_lmade : Stmt := top 64
abbrev n_lmade : List Str := ["_law_plan_here"]
theorem sc_lmade : FnScope n_lmade ["_law_plan_here"] (defScope s_lmade) :=
  ⟨rfl, rfl, rfl, by decide +kernel, rfl, by decide +kernel, by decide +kernel⟩

abbrev s_lletters : Stmt := top 65
abbrev n_lletters : List Str := ["_law_plan_here", "_law_key"]
theorem sc_lletters : FnScope n_lletters ["_law_plan_here"] (defScope s_lletters) :=
  ⟨rfl, rfl, rfl, by decide +kernel, rfl, by decide +kernel, by decide +kernel⟩

abbrev s_lbehind : Stmt := top 66
abbrev n_lbehind : List Str := ["_law_plan_here", "_law_states", "_law_found", "_law_turn", "_law_key"]
theorem sc_lbehind : FnScope n_lbehind ["_law_plan_here", "_law_states"] (defScope s_lbehind) :=
  ⟨rfl, rfl, rfl, by decide +kernel, rfl, by decide +kernel, by decide +kernel⟩

abbrev s_luseful : Stmt := top 67
abbrev n_luseful : List Str := ["_law_plan_here", "_law_come", "_law_state", "_law_one"]
theorem sc_luseful : FnScope n_luseful ["_law_plan_here"] (defScope s_luseful) :=
  ⟨rfl, rfl, rfl, by decide +kernel, rfl, by decide +kernel, by decide +kernel⟩

abbrev s_lrun : Stmt := top 68
abbrev n_lrun : List Str := ["_law_plan_here", "_law_text_here", "_law_found", "_law_letter"]
theorem sc_lrun : FnScope n_lrun ["_law_plan_here", "_law_text_here"] (defScope s_lrun) :=
  ⟨rfl, rfl, rfl, by decide +kernel, rfl, by decide +kernel, by decide +kernel⟩

abbrev s_listaken : Stmt := top 69
abbrev n_listaken : List Str := ["_law_plan_here", "_law_text_here", "_law_states"]
theorem sc_listaken : FnScope n_listaken ["_law_plan_here", "_law_text_here"] (defScope s_listaken) :=
  ⟨rfl, rfl, rfl, by decide +kernel, rfl, by decide +kernel, by decide +kernel⟩

abbrev s_lanswer : Stmt := top 70
abbrev n_lanswer : List Str := ["_law_plan_here", "_law_text_here", "_law_states", "_law_state", "_law_letter"]
theorem sc_lanswer : FnScope n_lanswer ["_law_plan_here", "_law_text_here"] (defScope s_lanswer) :=
  ⟨rfl, rfl, rfl, by decide +kernel, rfl, by decide +kernel, by decide +kernel⟩

abbrev s_ltext : Stmt := top 71
abbrev n_ltext : List Str := ["_law_pen_here", "_law_plan_here", "_law_most", "_law_found", "_law_state", "_law_k", "_law_some", "_law_letter", "_law_key"]
theorem sc_ltext : FnScope n_ltext ["_law_pen_here", "_law_plan_here", "_law_most"] (defScope s_ltext) :=
  ⟨rfl, rfl, rfl, by decide +kernel, rfl, by decide +kernel, by decide +kernel⟩

abbrev s_lheard : Stmt := top 72
abbrev n_lheard : List Str := ["_law_call", "_law_caught", "_law_found", "error"]
theorem sc_lheard : FnScope n_lheard ["_law_call"] (defScope s_lheard) :=
  ⟨rfl, rfl, rfl, by decide +kernel, rfl, by decide +kernel, by decide +kernel⟩

abbrev s_lheights : Stmt := top 73
abbrev n_lheights : List Str := ["_law_plan_here", "_law_states", "_law_text_here", "_law_found", "_law_state", "_law_letter"]
theorem sc_lheights : FnScope n_lheights ["_law_plan_here", "_law_states", "_law_text_here"] (defScope s_lheights) :=
  ⟨rfl, rfl, rfl, by decide +kernel, rfl, by decide +kernel, by decide +kernel⟩

abbrev s_law : Stmt := top 74
abbrev n_law : List Str := ["_law_script", "_law_pen_here", "_law_again", "_law_plan_here", "_law_made_here", "_law_turn", "_law_text_here", "_law_states", "_law_heard_here", "_law_due", "_law_odd", "_law_word", "_law_lone"]
theorem sc_law : FnScope n_law ["_law_script"] (defScope s_law) :=
  ⟨rfl, rfl, rfl, by decide +kernel, rfl, by decide +kernel, by decide +kernel⟩

def blts : List Str := ["len", "repr", "isinstance", "abs", "int", "list", "range", "tuple", "bool", "all", "any", "max", "min", "str", "dict", "sorted", "enumerate", "zip"]
/-- the pen at p: its cells are ns, at most n draws are done -/
def PenAt (H : Hp) (p c : Addr) (ns : List Int) (n : Nat) : Prop :=
  ∃ (t g : Int), H p = some (.lst [.ref c, .int t, .int g]) ∧ H c = some (.lst (ns.map V.int)) ∧ c ≠ p ∧ 0 ≤ t ∧ t ≤ n
def spPen (K : PySem.W.Frag) : Sp := fun vs H Q _ => ∃ (a : Addr) (ns : List Int), vs = [.ref a] ∧
  SqL K H a (ns.map V.int) ∧ ns.length ≤ 63 ∧
  ∀ (p c : Addr) (H' : Hp), H p = none → H c = none → Same H H' → PenAt H' p c ns 0 → Q (.ref p) H'
def spDraw : Sp := fun vs H Q _ => ∃ (p c : Addr) (many : Int) (ns : List Int) (n : Nat),
  vs = [.ref p, .int many] ∧ PenAt H p c ns n ∧ ns.length ≤ 63 ∧ 1 ≤ many ∧ many < 1000000000 ∧ n < 1000000 ∧
  ∀ (r : Int) (H' : Hp), 0 ≤ r → r < many → PenAt H' p c ns (n + 1) → But p H H' → Q (.int r) H'
structure Txt (K : PySem.W.Frag) (mg : Str → Option Value) : Prop where
  nb : ∀ x ∈ blts, mg x = none
  cs_letters : ∃ t, mg "LETTERS" = some (.str "abcdefghijklmnopqrstuvwxyz" t)
  cs_name : ∃ t, mg "LONGEST_NAME" = some (.int 8 t)
  cs_answer : ∃ t, mg "LONGEST_ANSWER" = some (.int 4 t)
  cs_text : ∃ t, mg "LONGEST_TEXT" = some (.int 400 t)
  d_ipair : OwnD K mg "is_pair" s_ipair ["value"]
  d_iletters : OwnD K mg "is_letters" s_iletters ["value", "least", "most"]
  d_iletter : OwnD K mg "is_letter" s_iletter ["value"]
  d_iname : OwnD K mg "is_name" s_iname ["value"]
  d_ianswer : OwnD K mg "is_answer" s_ianswer ["value"]
  d_itext : OwnD K mg "is_text" s_itext ["value"]
  d_igoal : OwnD K mg "is_goal" s_igoal ["value"]
  d_asteps : OwnD K mg "are_steps" s_asteps ["steps"]
  d_atails : OwnD K mg "are_tails" s_atails ["tails"]
  d_snames : OwnD K mg "state_names" s_snames ["start", "steps", "tails"]
  d_sletters : OwnD K mg "step_letters" s_sletters ["steps"]
  d_followed : OwnD K mg "followed" s_followed ["converter", "start", "text"]
  d_pen : OwnD K mg "_law_pen" s_lpen ["_law_script"]
  d_draw : OwnD K mg "_law_draw" s_ldraw ["_law_pen_here", "_law_many"]
  d_pick : OwnD K mg "_law_pick" s_lpick ["_law_pen_here", "_law_some"]
  d_lplan : OwnD K mg "_law_plan" s_lplan ["_law_pen_here", "_law_most"]
  d_lmade : OwnD K mg "_law_made" s_lmade ["_law_plan_here"]
  d_lrun : OwnD K mg "_law_run" s_lrun ["_law_plan_here", "_law_text_here"]
  d_ltext : OwnD K mg "_law_text" s_ltext ["_law_pen_here", "_law_plan_here", "_law_most"]
  d_lheard : OwnD K mg "_law_heard" s_lheard ["_law_call"]
  d_lheights : OwnD K mg "_law_heights" s_lheights ["_law_plan_here", "_law_states", "_law_text_here"]
  d_law : OwnD K mg "law" s_law ["_law_script"]
section
variable {P : Program} {w : World} {K : PySem.W.Frag} {mg : Str → Option Value} {base : Heap}
theorem eqv_nil (ds : List PyData) : PyData.eqv (.list ds) (.list []) = ds.isEmpty := by
  cases ds <;> simp [PyData.eqv, PyData.eqvAll]
theorem shaped_ints (ns : List Int) : SeqAt.shaped (.list (ns.map PyData.int)) = true := by
  have h1 : ∀ l : List Int, PyData.canLayAll0 (l.map PyData.int) = true := by
    intro l
    induction l with
    | nil => simp [PyData.canLayAll0]
    | cons a l ih => simp [PyData.canLayAll0, PyData.canLay0, ih]
  have h2 : ∀ l : List Int, PyData.depthAll (l.map PyData.int) ≤ 1 := by
    intro l
    induction l with
    | nil => simp [PyData.depthAll]
    | cons a l ih => simp [PyData.depthAll, PyData.depth]; omega
  unfold SeqAt.shaped
  have := h2 ns
  simp [PyData.canLay0, PyData.depth, h1]
  omega
theorem kp_draw (T : Txt K mg) : Kf P w K mg base 1 "_law_draw" ["_law_pen_here", "_law_many"] spDraw := by
  refine T.d_draw.okF sc_ldraw (fun vs H Q E h => ?_) (fun f cdv A outer s H vs Q E hA hr h => ?_)
  · obtain ⟨p, c, m, ns, n, rfl, _⟩ := h
    rfl
  · obtain ⟨p, c, m, ns, n, rfl, ⟨t, g, hp, hc, ne, t0, t1⟩, hlen, m0, m1, hn, k⟩ := h
    have fin : ∀ (r t' g' : Int) (H' : Hp), 0 ≤ r → r < m → 0 ≤ t' → t' ≤ (n : Int) + 1 → H' p = some (.lst [.ref c, .int t', .int g']) →
        But p H H' → Q (.int r) H' := fun r t' g' H' r0 r1 a b e fr =>
      k r H' r0 r1 ⟨t', g', e, fr c ne _ hc, ne, a, by omega⟩ fr
    refine ⟨_, (pss_cons (ps_if (pt_cmpR op_gt (pe_ix (ix_list : IxR _ (rIxL K)) (pv 0) (pe_int) (fun _ _ => rfl)) (pe_int) (nomark _))
 (pss_cons (ps_set (i := 2) sc_ldraw.nd rfl (Or.inl rfl) (pe_op op_modW (pe_callTy call_intI (by rfl) (T.nb _ (by decide)) (by decide +kernel) (pa_cons (pe_ix (ix_list : IxR _ (rIxL K)) (pv 0) (pe_int) (fun _ _ => rfl)) pa_nil)) (pv 1)))
 (pss_cons (ps_asg (pe_op op_divW (pe_callTy call_intI (by rfl) (T.nb _ (by decide)) (by decide +kernel) (pa_cons (pe_ix (ix_list : IxR _ (rIxL K)) (pv 0) (pe_int) (fun _ _ => rfl)) pa_nil)) (pv 1)) (pg_sub (pv 0) (pe_int) set_list))
 (pss_one (ps_ret (pv 2))))) pss_nil)
 (pss_cons (ps_set (i := 3) sc_ldraw.nd rfl (Or.inl rfl) (pe_ix (ix_list : IxR _ (rIxL K)) (pv 0) (pe_int) (fun _ _ => rfl)))
 (pss_cons (ps_asg (pe_op op_add (pv 3) (pe_int)) (pg_sub (pv 0) (pe_int) set_list))
 (pss_cons (ps_set (i := 4) sc_ldraw.nd rfl (Or.inl rfl) (pe_op op_add (pe_op op_mulW' (pe_int) (pv 3)) (pe_int)))
 (pss_mid (ps_if (pt_cmpR (op_neD hr.units) (pe_ix (ix_list : IxR _ (rIxL K)) (pv 0) (pe_int) (fun _ _ => rfl)) (pe_lst pa_nil) (nomark _))
 (pss_one (ps_set (i := 4) sc_ldraw.nd rfl (Or.inl rfl) (pe_ix (ix_list : IxR _ (rIxL K)) (pe_ix (ix_list : IxR _ (rIxL K)) (pv 0) (pe_int) (fun _ _ => rfl)) (pe_op op_modW (pe_callTy call_intI (by rfl) (T.nb _ (by decide)) (by decide +kernel) (pa_cons (pv 3) pa_nil)) (pe_callB call_len (by rfl) (T.nb _ (by decide)) PySem.boot_len (pa_cons (pe_ix (ix_list : IxR _ (rIxL K)) (pv 0) (pe_int) (fun _ _ => rfl)) pa_nil))) (fun _ _ => rfl)))) pss_nil)
 (pss_mid (ps_if (PW.pt (pw_and (pt_cmpR op_lt (pv 3) (pe_callB call_len (by rfl) (T.nb _ (by decide)) PySem.boot_len (pa_cons (pe_ix (ix_list : IxR _ (rIxL K)) (pv 0) (pe_int) (fun _ _ => rfl)) pa_nil)) (nomark _)) (pw_and1 (pt_cmpR op_ge (pe_callB call_abs (by rfl) (T.nb _ (by decide)) (by decide +kernel) (pa_cons (pv 4) pa_nil)) (pe_op op_pow (pe_int) (pe_int)) (nomark _)))))
 (pss_cons (ps_set (i := 5) sc_ldraw.nd rfl (Or.inl rfl) (pe_op op_add (pe_op op_mulW' (pe_int) (pe_op op_sub (pe_callB call_abs (by rfl) (T.nb _ (by decide)) (by decide +kernel) (pa_cons (pv 4) pa_nil)) (pe_op op_pow (pe_int) (pe_int)))) (pe_callTy call_intB (by rfl) (T.nb _ (by decide)) (by decide +kernel) (pa_cons (pe_cmpR op_lt (pv 4) (pe_int) (nomark _)) pa_nil))))
 (pss_cons (ps_asg (pe_op op_divW (pe_callTy call_intI (by rfl) (T.nb _ (by decide)) (by decide +kernel) (pa_cons (pv 5) pa_nil)) (pv 1)) (pg_sub (pv 0) (pe_int) set_list))
 (pss_one (ps_ret (pe_op op_modW (pe_callTy call_intI (by rfl) (T.nb _ (by decide)) (by decide +kernel) (pa_cons (pv 5) pa_nil)) (pv 1)))))) pss_nil)
 (pss_cons (ps_set (i := 6) sc_ldraw.nd rfl (Or.inl rfl) (pe_op op_modW (pe_callTy call_intI (by rfl) (T.nb _ (by decide)) (by decide +kernel) (pa_cons (pe_op op_powW (pe_op op_add (pe_op op_add (pe_op op_modW (pe_callTy call_intI (by rfl) (T.nb _ (by decide)) (by decide +kernel) (pa_cons (pv 4) pa_nil)) (pe_int)) (pe_op op_mulW' (pe_int) (pv 3))) (pe_int)) (pe_int)) pa_nil)) (pe_int)))
 (pss_cons (ps_set (i := 6) sc_ldraw.nd rfl (Or.inl rfl) (pe_op op_modW (pe_callTy call_intI (by rfl) (T.nb _ (by decide)) (by decide +kernel) (pa_cons (pe_op op_powW (pe_op op_add (pe_op op_add (pe_op op_mulW' (pv 6) (pe_op op_add (pe_op op_mulW' (pe_int) (pv 3)) (pe_int))) (pe_op op_mulW' (pe_op op_mulW' (pe_int) (pv 3)) (pv 3))) (pe_int)) (pe_int)) pa_nil)) (pe_int)))
 (pss_one (ps_ret (pe_op op_modW (pe_callTy call_intI (by rfl) (T.nb _ (by decide)) (by decide +kernel) (pa_cons (pe_op op_divW (pv 6) (pe_int)) pa_nil)) (pv 1)))))))))))), ?_⟩
    refine ⟨_, rfl, _, _, _, _, rfl, rfl, SqL.of (by walk_at "hp"), rfl, _, _, rfl, rfl, _, rfl, ?_⟩
    refine ite2 (fun c1 => ?_) (fun c1 => ?_)
    · -- a digit of a great cell
      refine ⟨_, rfl, _, _, _, _, rfl, rfl, SqL.of (by walk_at "hp"), rfl, _, rfl, _, rfl, _, _, rfl, rfl, by omega, fun r r0 r1 => ?_⟩
      refine ⟨_, rfl, _, _, _, _, rfl, rfl, SqL.of (by walk_at "hp"), rfl, _, rfl, _, rfl, _, _, rfl, rfl, by omega, by omega, fun q z _ _ _ => ?_⟩
      refine ⟨_, rfl, _, _, _, _, rfl, rfl, by walk_at "hp", rfl, _, rfl, ?_⟩
      exact fin r t q _ r0 r1 t0 (by omega) upd_same (fun b hb o e => upd_oth hb e)
    · refine ⟨_, rfl, _, _, _, _, rfl, rfl, SqL.of (by walk_at "hp"), rfl, ?_⟩
      refine ⟨_, rfl, _, _, rfl, rfl, _, rfl, _, _, _, _, rfl, rfl, by walk_at "hp", rfl, ?_⟩
      refine ⟨_, rfl, _, _, rfl, rfl, .inl (by constructor <;> decide), fun z hz => ?_⟩
      refine ⟨_, _, rfl, rfl, ?_⟩
      have hp1 : ∀ u : HO, upd H p u p = some u := fun u => upd_same
      have hc1 : ∀ u : HO, upd H p u c = some (.lst (ns.map V.int)) := fun u => upd_oth ne hc
      have fr1 : ∀ u : HO, But p H (upd H p u) := fun u b hb o e => upd_oth hb e
      -- behind the first cell's choice: some int
      let σ2 : Int → St := fun v => [some (.ref p), some (.int m), none, some (.int t), some (.int v), none, none]
      refine ⟨fun σ' H' => (∃ v, σ' = σ2 v) ∧ H' p = some (.lst [.ref c, .int (t + 1), .int g]) ∧ But p H H', ?_, ?_⟩
      · refine ⟨_, rfl, _, _, _, _, rfl, rfl, SqL.of (hp1 _), rfl, by decide, fun l hl => ?_⟩
        have hp2 : ∀ u : HO, upd (upd H p (.lst [.ref c, .int (t + 1), .int g])) l u p = some (.lst [.ref c, .int (t + 1), .int g]) :=
          fun u => upd_new hl (hp1 _)
        have hc2 : ∀ u : HO, upd (upd H p (.lst [.ref c, .int (t + 1), .int g])) l u c = some (.lst (ns.map V.int)) :=
          fun u => upd_new hl (hc1 _)
        have fr2 : ∀ u : HO, But p H (upd (upd H p (.lst [.ref c, .int (t + 1), .int g])) l u) := fun u b hb o e => upd_new hl (fr1 _ b hb o e)
        refine ⟨_, _, .lst (SqL.of (hc2 _)) (dp_ints ns), .lst (SqL.of upd_same) .nil, shaped_ints ns, rfl, _, rfl, ?_⟩
        rw [eqv_nil]
        refine ite2 (fun c2 => ?_) (fun c2 => ?_)
        · have hne : 0 < (ns.length : Int) := by
            cases ns with
            | nil => simp at c2
            | cons a l => simp
          refine ⟨_, rfl, _, _, _, _, rfl, rfl, SqL.of (hp2 _), rfl, _, rfl, _, rfl, _, rfl, _, _, _, _, rfl, rfl, SqL.of (hp2 _), rfl, ?_⟩
          refine ⟨_, _, rfl, len_lst (hc2 _), _, _, rfl, rfl, ?_, fun r r0 r1 => ?_⟩
          · rw [List.length_map]; exact hne
          · rw [List.length_map] at r1
            obtain ⟨x, hx⟩ := at_map r0 r1
            exact ⟨_, _, _, _, rfl, rfl, SqL.of (hc2 _), hx, ⟨x, rfl⟩, hp2 _, fr2 _⟩
        · exact ⟨⟨_, rfl⟩, hp2 _, fr2 _⟩
      · rintro σ' H' ⟨⟨v, rfl⟩, hp', fr'⟩
        have hc' : H' c = some (.lst (ns.map V.int)) := fr' c ne _ hc
        refine ⟨fun σ1 H1 => σ1 = σ2 v ∧ H1 p = some (.lst [.ref c, .int (t + 1), .int g]) ∧ But p H H1, ?_, ?_⟩
        · refine ⟨_, rfl, _, rfl, _, _, _, _, rfl, rfl, SqL.of hp', rfl, _, _, rfl, len_lst hc', _, _, rfl, rfl, _, rfl, ?_⟩
          refine ite2 (fun c3 => ?_) (fun c3 => iteF ⟨rfl, hp', fr'⟩)
          refine ⟨_, rfl, _, rfl, _, _, rfl, rfl, ⟨by decide, by decide, by decide⟩, _, _, rfl, rfl, _, rfl, ?_⟩
          refine ite2 (fun c4 => ?_) (fun c4 => ⟨rfl, hp', fr'⟩)
          refine ⟨_, rfl, _, rfl, _, _, rfl, rfl, ⟨by decide, by decide, by decide⟩, _, _, rfl, rfl, _, _, rfl, rfl, .inl (by constructor <;> decide), fun z1 hz1 => ?_⟩
          refine ⟨_, rfl, _, _, rfl, rfl, _, rfl, fun i i0 i1 => ⟨_, _, rfl, rfl, ?_⟩⟩
          refine ⟨_, rfl, _, rfl, _, rfl, _, _, rfl, rfl, by omega, by omega, fun q z2 _ _ _ => ?_⟩
          refine ⟨_, rfl, _, _, _, _, rfl, rfl, by walk_at "hp", rfl, ?_⟩
          refine ⟨_, rfl, _, rfl, _, rfl, _, _, rfl, rfl, by omega, fun r r0 r1 => ?_⟩
          exact fin r (t + 1) q _ r0 r1 (by omega) (by omega) upd_same (fun b hb o e => upd_oth hb (fr' b hb o e))
        · rintro σ1 H1 ⟨rfl, hp1, fr1⟩
          refine ⟨_, rfl, _, rfl, _, _, rfl, rfl, by decide, fun r r0 r1 => ?_⟩
          refine ⟨_, rfl, _, _, rfl, rfl, .inl (by constructor <;> decide), fun z1 hz1 => ?_⟩
          refine ⟨_, _, rfl, rfl, _, _, rfl, rfl, _, _, rfl, rfl, by decide, by decide, by omega, fun z2 => ?_⟩
          refine ⟨_, rfl, _, _, rfl, rfl, by decide, fun b b0 b1 => ?_⟩
          refine ⟨_, rfl, _, rfl, _, _, rfl, rfl, .inl (by constructor <;> decide), fun z3 hz3 => ?_⟩
          refine ⟨_, _, rfl, rfl, _, _, rfl, rfl, .inl (by constructor <;> omega), fun z4 hz4 => ?_⟩
          refine ⟨_, rfl, _, _, rfl, rfl, .inl (by constructor <;> decide), fun z5 hz5 => ?_⟩
          refine ⟨_, rfl, _, _, rfl, rfl, .inl (by constructor <;> omega), fun z6 hz6 => ?_⟩
          have z40 : 0 ≤ z4 ∧ z4 ≤ 2147483647 * 2010000 := by
            subst hz4
            have a1 : 0 ≤ z3 + 533 := by omega
            have a2 : z3 + 533 ≤ 2010000 := by omega
            exact ⟨Int.mul_nonneg b0 a1, Int.le_trans (Int.mul_le_mul_of_nonneg_right (by omega) a1) (Int.mul_le_mul_of_nonneg_left a2 (by decide))⟩
          have z60 : 0 ≤ z6 ∧ z6 ≤ 72191 * 1000000 * 1000000 := by
            subst hz6
            have a1 : 0 ≤ t := t0
            have a2 : t ≤ 1000000 := by omega
            have a3 : 0 ≤ z5 := by omega
            exact ⟨Int.mul_nonneg a3 a1, Int.le_trans (Int.mul_le_mul_of_nonneg_right (by omega) a1) (Int.mul_le_mul_of_nonneg_left a2 (by decide))⟩
          refine ⟨_, _, rfl, rfl, _, _, rfl, rfl, _, _, rfl, rfl, by decide, by decide, by omega, fun z7 => ?_⟩
          refine ⟨_, rfl, _, _, rfl, rfl, by decide, fun d d0 d1 => ?_⟩
          refine ⟨_, rfl, _, _, rfl, rfl, by decide, by decide, fun q z8 _ _ _ => ?_⟩
          refine ⟨_, rfl, _, rfl, _, _, rfl, rfl, by omega, fun r2 r20 r21 => ?_⟩
          exact fin r2 (t + 1) g _ r20 r21 (by omega) (by omega) hp1 fr1
theorem kp_pen (T : Txt K mg) : Kf P w K mg base 1 "_law_pen" ["_law_script"] (spPen K) := by
  refine T.d_pen.okF sc_lpen (fun vs H Q E h => ?_) (fun f cdv A outer s H vs Q E hA hr h => ?_)
  · obtain ⟨a, ns, rfl, _⟩ := h
    rfl
  · obtain ⟨a, ns, rfl, hs, hlen, k⟩ := h
    refine ⟨_, (pss_one (ps_ret (pe_lst (pa_cons (pe_callTy call_list_of (by rfl) (T.nb _ (by decide)) (by decide +kernel) (pa_cons (pe_slice (sl_list : SlR _ (rSlL K)) (pv 0) po_none (po_some (pe_int))) pa_nil)) (pa_cons (pe_int) (pa_cons (pe_int) pa_nil)))))), ?_⟩
    refine ⟨_, rfl, _, rfl, _, _, rfl, hs, fun q hq => ?_⟩
    refine ⟨_, _, rfl, .inl (SqL.of upd_same), fun c hc => ?_⟩
    refine ⟨(by show 3 ≤ sizeLine; decide), fun p hp => ?_⟩
    have e : cutV (ns.map V.int) none (some 63) = ns.map V.int := by
      have l : (ns.map V.int).length ≤ 63 := by rw [List.length_map]; exact hlen
      have q : cutV (ns.map V.int) none (some 63) = ((ns.map V.int).drop (HT.sIx (ns.map V.int).length 0 none)).take
          (HT.sIx (ns.map V.int).length (ns.map V.int).length (some ((63 : Nat) : Int)) - HT.sIx (ns.map V.int).length 0 none) := rfl
      rw [q, HT.sIx_nat, HT.sIx_none, List.drop_zero]
      exact List.take_of_length_le (by omega)
    have hH : H p = none := (Same.trans (Same.new hq) (Same.new hc)).free hp
    refine k p c _ hH ((Same.new hq).free hc) ((Same.new hq).trans ((Same.new hc).trans (Same.new hp))) ⟨0, 0, upd_same, ?_, ?_, by omega, by omega⟩
    · refine upd_new hp ?_
      rw [upd_same, e]
    · intro z
      rw [z, upd_same] at hp
      cases hp
def spPick : Sp := fun vs H Q _ => ∃ (p c l : Addr) (xs : List V) (ns : List Int) (n : Nat),
  vs = [.ref p, .ref l] ∧ PenAt H p c ns n ∧ ns.length ≤ 63 ∧ H l = some (.lst xs) ∧ l ≠ p ∧ 0 < xs.length ∧
  xs.length < 1000000 ∧ n < 1000000 ∧
  ∀ (v : V) (H' : Hp), v ∈ xs → PenAt H' p c ns (n + 1) → But p H H' → Q v H'
theorem kp_pick (T : Txt K mg) : Kf P w K mg base 2 "_law_pick" ["_law_pen_here", "_law_some"] spPick := by
  refine T.d_pick.okF sc_lpick (fun vs H Q E h => ?_) (fun f cdv A outer s H vs Q E hA hr h => ?_)
  · obtain ⟨p, c, l, xs, ns, n, rfl, _⟩ := h
    rfl
  · obtain ⟨p, c, l, xs, ns, n, rfl, hp, hlen, hl, ne, h0, h1, hn, k⟩ := h
    refine ⟨_, (pss_one (ps_ret (pe_ix (ix_list : IxR _ (rIxL K)) (pv 1) (pe_kf (kp_draw T) hA hr (by rfl) (pa_cons (pv 0) (pa_cons (pe_callB call_len (by rfl) (T.nb _ (by decide)) PySem.boot_len (pa_cons (pv 1) pa_nil)) pa_nil))) (fun _ _ => rfl)))), ?_⟩
    refine ⟨_, rfl, _, rfl, _, rfl, _, _, rfl, len_lst hl, ?_⟩
    refine ⟨p, c, _, ns, n, rfl, hp, hlen, by omega, by omega, hn, fun r H' r0 r1 hp' hb => ?_⟩
    obtain ⟨x, hx, hm⟩ := at_in (xs := xs) r0 (by omega)
    exact ⟨_, _, _, _, rfl, rfl, SqL.of (hb l ne _ hl), hx, k x H' hm hp' hb⟩
/-- a told value -/
def vO : Option Int → V
  | none => .non
  | some i => .int i
end
end KC

namespace KC
open PySem L2
def abcN : List Nat := [97, 98, 99, 100, 101, 102, 103, 104, 105, 106, 107, 108, 109, 110, 111, 112, 113, 114, 115, 116, 117, 118, 119, 120, 121, 122]
theorem ascii_row : ∀ c : Fin 128, Unicode.isAlpha c.1 = true → (Unicode.isUpper c.1 || Unicode.isTitle c.1) = false → c.1 ∈ abcN := by decide +kernel
theorem abc_row : ∀ c ∈ abcN, (decide (c < 128) && (Unicode.isAlpha c && (Unicode.isLower c && !(Unicode.isUpper c || Unicode.isTitle c)))) = true := by decide +kernel
theorem lower_all {s : Str} (h : s.cps.toList ≠ []) : (Txt.isascii s && (Txt.isalpha s && Txt.islower s)) = s.cps.toList.all (fun c => decide (c ∈ abcN)) := by
  unfold Txt.isascii Txt.isalpha Txt.islower
  rw [← Array.all_toList, ← Array.all_toList, ← Array.any_toList, ← Array.any_toList]
  have hl : decide (s.length > 0) = true := by
    refine decide_eq_true ?_
    unfold Str.length
    rw [← Array.length_toList]
    exact List.length_pos_iff.mpr h
  rw [hl, Bool.true_and]
  revert h
  generalize s.cps.toList = l
  intro h
  rw [Bool.eq_iff_iff]
  simp only [Bool.and_eq_true, List.all_eq_true, List.any_eq_true, decide_eq_true_eq, Bool.not_eq_true', List.any_eq_false]
  constructor
  · rintro ⟨ha, hb, _, hc⟩ c m
    exact ascii_row ⟨c, ha c m⟩ (hb c m) (by simpa using hc c m)
  · intro k
    have r : ∀ c ∈ l, c < 128 ∧ Unicode.isAlpha c = true ∧ Unicode.isLower c = true ∧ (Unicode.isUpper c || Unicode.isTitle c) = false := by
      intro c m
      have := abc_row c (k c m)
      simp only [Bool.and_eq_true, decide_eq_true_eq, Bool.not_eq_true'] at this
      exact this
    refine ⟨fun c m => (r c m).1, fun c m => (r c m).2.1, ?_, fun c m => by simpa using (r c m).2.2.2⟩
    obtain ⟨c, hc⟩ := List.exists_mem_of_ne_nil l h
    exact ⟨c, hc, (r c hc).2.2.1⟩
def abc : Str := "abcdefghijklmnopqrstuvwxyz"
/-- letters alone, from lo to hi of them -/
def okL (lo hi : Nat) (s : Str) : Bool := decide (lo ≤ s.length) && (decide (s.length ≤ hi) && s.cps.toList.all fun c => decide (c ∈ abc.cps.toList))
abbrev isName (s : Str) : Bool := okL 1 8 s
abbrev isLet (s : Str) : Bool := okL 1 1 s
abbrev isAns (s : Str) : Bool := okL 0 4 s
abbrev isTxt (s : Str) : Bool := okL 0 400 s
section
variable {P : Program} {w : World} {K : PySem.W.Frag} {mg : Str → Option Value} {base : Heap}
def spL (K : PySem.W.Frag) (lo hi : Nat) (v : V) (H : Hp) (Q : VK) : Prop :=
  (∃ s : Str, v = .str s ∧ s.length ≤ 10000 ∧ ∀ H', Same H H' → Q (.bl (okL lo hi s)) H') ∨
  (∃ t, TyOf K H v t ∧ PySem.W.kitOne K t (.type "str") = some false ∧ Q (.bl false) H)
theorem spL.mono {lo hi : Nat} {v : V} {H : Hp} {Q Q' : VK} (h : spL K lo hi v H Q) (m : ∀ u H', Same H H' → Q u H' → Q' u H') : spL K lo hi v H Q' := by
  rcases h with ⟨s, e, z, k⟩ | ⟨t, ty, e, k⟩
  · exact .inl ⟨s, e, z, fun H' s' => m _ _ s' (k H' s')⟩
  · exact .inr ⟨t, ty, e, m _ _ (fun _ _ h => h) k⟩
def spLetters (K : PySem.W.Frag) : Sp := fun vs H Q _ => ∃ (v : V) (lo hi : Nat), vs = [v, .int lo, .int hi] ∧ spL K lo hi v H Q
theorem kp_letters (T : Txt K mg) : Kf P w K mg base 1 "is_letters" ["value", "least", "most"] (spLetters K) := by
  refine T.d_iletters.okF sc_iletters (fun vs H Q E h => ?_) (fun f cdv A outer s H vs Q E hA hr h => ?_)
  · obtain ⟨v, lo, hi, rfl, _⟩ := h
    rfl
  · obtain ⟨v, lo, hi, rfl, h⟩ := h
    refine ⟨_, (pss_cons (ps_if (PW.pt (pw_or (pt_not (pt_val (pe_callB call_isi (by rfl) (T.nb _ (by decide)) (by decide +kernel) (pa_cons (pv 0) (pa_cons (pe_bltn (v := .ty "str") (by rfl) (T.nb _ (by decide)) (by decide +kernel) rfl) pa_nil))))) (pw_or (pt_cmpR op_lt (pe_callB call_len (by rfl) (T.nb _ (by decide)) PySem.boot_len (pa_cons (pv 0) pa_nil)) (pv 1) (nomark _)) (pw_or1 (pt_cmpR op_gt (pe_callB call_len (by rfl) (T.nb _ (by decide)) PySem.boot_len (pa_cons (pv 0) pa_nil)) (pv 2) (nomark _))))))
 (pss_one (ps_ret (pe_bl))) pss_nil)
 (pss_one (ps_ret ((pe_or (pe_cmpR op_eq (pv 0) (pe_str) (nomark _)) (pe_one ((pe_and (pe_m0 PySem.F.slot_str_isascii PySem.F.type_str_isascii mt_isascii (pv 0)) (pe_and (pe_m0 PySem.F.slot_str_isalpha PySem.F.type_str_isalpha mt_isalpha (pv 0)) (pe_one (pe_m0 PySem.F.slot_str_islower PySem.F.type_str_islower mt_islower (pv 0)))))))))))), ?_⟩
    rcases h with ⟨z, rfl, hz, k⟩ | ⟨t, ty, ht, k⟩
    · refine ⟨_, rfl, .str z, _, _, _, true, rfl, .ty "str", .base (.str z), kit_ty (by decide +kernel), _, rfl, iteF ?_⟩
      refine ⟨_, rfl, .str z, _, rfl, ⟨Nat.le_trans hz (by decide), rfl⟩, _, rfl, _, _, rfl, rfl, _, rfl, ?_⟩
      unfold okL at k
      refine ite2 (fun c => ?_) (fun c => ?_)
      · have c' : ¬ lo ≤ z.length := by
          have := of_decide_eq_true c
          omega
        rw [decide_eq_false c'] at k
        exact k H (fun _ _ h => h)
      have c1 : lo ≤ z.length := by
        have : ¬ ((z.length : Int) < lo) := fun q => c (decide_eq_true q)
        omega
      rw [decide_eq_true c1] at k
      refine ⟨_, rfl, .str z, _, rfl, ⟨Nat.le_trans hz (by decide), rfl⟩, _, rfl, _, _, rfl, rfl, _, rfl, ?_⟩
      refine ite2 (fun c => ?_) (fun c => ?_)
      · have c' : ¬ z.length ≤ hi := by
          have := of_decide_eq_true c
          omega
        rw [decide_eq_false c'] at k
        exact k H (fun _ _ h => h)
      have c2 : z.length ≤ hi := by
        have : ¬ ((hi : Int) < z.length) := fun q => c (decide_eq_true q)
        omega
      rw [decide_eq_true c2] at k
      have fin : ∀ b, b = (z.cps.toList.all fun c => decide (c ∈ abc.cps.toList)) → Q (.bl b) H := fun b e => by
        rw [e]
        exact k H (fun _ _ h => h)
      by_cases n : z.cps.toList = []
      · have e0 : z = "" := by
          cases z
          exact congrArg Str.mk (Array.toList_inj.mp n)
        subst e0
        exact ⟨_, rfl, rfl, true, rfl, fin _ (by decide)⟩
      · have e0 : decide (V.str z = V.str (Str.ofString "")) = false := decide_eq_false fun e => n (by rw [V.str.inj e]; rfl)
        refine ⟨_, rfl, rfl, false, congrArg V.bl e0, _, rfl, ?_⟩
        have e1 := lower_all n
        have e2 : (fun c => decide (c ∈ abcN)) = (fun c : Nat => decide (c ∈ abc.cps.toList)) := rfl
        rw [e2] at e1
        refine ⟨⟨z, rfl⟩, z, rfl, rfl, trivial, _, rfl, ?_⟩
        refine ite2 (fun c1 => ?_) (fun c1 => ?_)
        · rw [c1, Bool.true_and] at e1
          refine ⟨_, rfl, ⟨z, rfl⟩, z, rfl, rfl, trivial, _, rfl, ?_⟩
          refine ite2 (fun c2 => ?_) (fun c2 => ?_)
          · rw [c2, Bool.true_and] at e1
            exact ⟨_, rfl, ⟨z, rfl⟩, z, rfl, rfl, trivial, fin _ e1⟩
          · rw [eq_false_of_ne_true c2, Bool.false_and] at e1
            exact fin _ e1
        · rw [eq_false_of_ne_true c1, Bool.false_and] at e1
          exact fin _ e1
    · exact ⟨_, rfl, v, _, _, _, false, rfl, .ty "str", .base ty, ht, _, rfl, iteT k⟩
def spL1 (K : PySem.W.Frag) (lo hi : Nat) : Sp := fun vs H Q _ => ∃ v, vs = [v] ∧ spL K lo hi v H Q
theorem kp_letter (T : Txt K mg) : Kf P w K mg base 2 "is_letter" ["value"] (spL1 K 1 1) := by
  refine T.d_iletter.okF sc_iletter (fun vs H Q E h => ?_) (fun f cdv A outer s H vs Q E hA hr h => ?_)
  · obtain ⟨v, rfl, _⟩ := h
    rfl
  · obtain ⟨v, rfl, h⟩ := h
    exact ⟨_, (pss_one (ps_ret (pe_kf (kp_letters T) hA hr (by rfl) (pa_cons (pv 0) (pa_cons (pe_int) (pa_cons (pe_int) pa_nil)))))), ⟨_, rfl, v, 1, 1, rfl, h⟩⟩
theorem kp_name (T : Txt K mg) : Kf P w K mg base 2 "is_name" ["value"] (spL1 K 1 8) := by
  refine T.d_iname.okF sc_iname (fun vs H Q E h => ?_) (fun f cdv A outer s H vs Q E hA hr h => ?_)
  · obtain ⟨v, rfl, _⟩ := h
    rfl
  · obtain ⟨v, rfl, h⟩ := h
    exact ⟨_, (pss_one (ps_ret (pe_kf (kp_letters T) hA hr (by rfl) (pa_cons (pv 0) (pa_cons (pe_int) (pa_cons (pe_cst (by rfl) T.cs_name) pa_nil)))))), ⟨_, rfl, v, 1, 8, rfl, h⟩⟩
theorem kp_answer (T : Txt K mg) : Kf P w K mg base 2 "is_answer" ["value"] (spL1 K 0 4) := by
  refine T.d_ianswer.okF sc_ianswer (fun vs H Q E h => ?_) (fun f cdv A outer s H vs Q E hA hr h => ?_)
  · obtain ⟨v, rfl, _⟩ := h
    rfl
  · obtain ⟨v, rfl, h⟩ := h
    exact ⟨_, (pss_one (ps_ret (pe_kf (kp_letters T) hA hr (by rfl) (pa_cons (pv 0) (pa_cons (pe_int) (pa_cons (pe_cst (by rfl) T.cs_answer) pa_nil)))))), ⟨_, rfl, v, 0, 4, rfl, h⟩⟩
theorem kp_text (T : Txt K mg) : Kf P w K mg base 2 "is_text" ["value"] (spL1 K 0 400) := by
  refine T.d_itext.okF sc_itext (fun vs H Q E h => ?_) (fun f cdv A outer s H vs Q E hA hr h => ?_)
  · obtain ⟨v, rfl, _⟩ := h
    rfl
  · obtain ⟨v, rfl, h⟩ := h
    exact ⟨_, (pss_one (ps_ret (pe_kf (kp_letters T) hA hr (by rfl) (pa_cons (pv 0) (pa_cons (pe_int) (pa_cons (pe_cst (by rfl) T.cs_text) pa_nil)))))), ⟨_, rfl, v, 0, 400, rfl, h⟩⟩
end
end KC

namespace KC
open PySem L2
abbrev StE := (Str × Str) × (Str × Str)
def stK (e : StE) : List Key := [.inr e.1.1, .inr e.1.2]
/-- the steps of a dict with pairs as keys -/
def StK (K : PySem.W.Frag) (H : Hp) (kvs : List (List Key × V)) (st : List StE) : Prop :=
  kvs.map (·.1) = st.map stK ∧ ∀ (i : Nat) (e : StE), st[i]? = some e → ∃ q, kvs[i]? = some (stK e, .ref q) ∧ SqT K H q [.str e.2.1, .str e.2.2]
theorem StK.same {K : PySem.W.Frag} {H H' : Hp} {kvs : List (List Key × V)} {st : List StE} (h : StK K H kvs st) (s : Same H H') : StK K H' kvs st :=
  ⟨h.1, fun i e he => let ⟨q, a, b⟩ := h.2 i e he; ⟨q, a, b.ext s⟩⟩
theorem StK.len {K : PySem.W.Frag} {H : Hp} {kvs : List (List Key × V)} {st : List StE} (h : StK K H kvs st) : kvs.length = st.length := by
  have := congrArg List.length h.1
  simpa using this
def tlKv (e : Str × Str) : Key × V := (.inr e.1, .str e.2)
theorem sqT_ty {K : PySem.W.Frag} {H : Hp} {a : Addr} {xs : List V} (h : SqT K H a xs) : TyX K H (.ref a) (.type "tuple") := by
  rcases h with (h | ⟨o, h⟩) | ⟨o, _, _, h, c, _⟩
  · exact .base (.tup h)
  · exact .fTuple h
  · exact .kTuple h c
/-- a name that is there once is found -/
theorem valV_at {κ : Type} [DecidableEq κ] : ∀ {kvs : List (κ × V)} {i : Nat} {k : κ} {v : V}, (kvs.map (·.1)).Nodup → kvs[i]? = some (k, v) → valV kvs k = some v
  | [], i, k, v, _, h => by simp at h
  | p :: r, 0, k, v, _, h => by
    simp at h
    subst h
    exact valV_pos rfl
  | p :: r, i + 1, k, v, nd, h => by
    simp at h
    rw [List.map_cons, List.nodup_cons] at nd
    have : ¬ p.1 = k := by
      intro z
      refine nd.1 ?_
      rw [z]
      exact List.mem_map.mpr ⟨(k, v), List.mem_of_getElem? h, rfl⟩
    rw [valV_neg this]
    exact valV_at nd.2 h
section
variable {P : Program} {w : World} {K : PySem.W.Frag} {mg : Str → Option Value} {base : Heap}
def spPair (K : PySem.W.Frag) : Sp := fun vs H Q _ => ∃ (a : Addr) (xs : List V), vs = [.ref a] ∧ SqT K H a xs ∧ Q (.bl (decide (xs.length = 2))) H
theorem kp_pair (T : Txt K mg) : Kf P w K mg base 1 "is_pair" ["value"] (spPair K) := by
  refine T.d_ipair.okF sc_ipair (fun vs H Q E h => ?_) (fun f cdv A outer s H vs Q E hA hr h => ?_)
  · obtain ⟨a, xs, rfl, _⟩ := h
    rfl
  · obtain ⟨a, xs, rfl, hs, k⟩ := h
    refine ⟨_, (pss_one (ps_ret ((pe_and (pe_callB call_isi (by rfl) (T.nb _ (by decide)) (by decide +kernel) (pa_cons (pv 0) (pa_cons (pe_bltn (v := .ty "tuple") (by rfl) (T.nb _ (by decide)) (by decide +kernel) rfl) pa_nil))) (pe_one (pe_cmpR op_eq (pe_callB call_len (by rfl) (T.nb _ (by decide)) PySem.boot_len (pa_cons (pv 0) pa_nil)) (pe_int) (nomark _))))))), ?_⟩
    refine ⟨_, rfl, .ref a, _, _, _, true, rfl, .ty "tuple", sqT_ty hs, kit_ty (by decide +kernel), _, rfl, iteT ?_⟩
    refine ⟨_, rfl, .ref a, _, rfl, .inr ⟨_, hs, rfl⟩, rfl, ?_⟩
    have e : decide (V.int (xs.length : Int) = V.int 2) = decide (xs.length = 2) := by
      rw [decide_eq_decide]
      exact ⟨fun z => by have := V.int.inj z; omega, fun z => by rw [z]; rfl⟩
    show Q (.bl (decide (V.int (xs.length : Int) = V.int 2))) H
    rw [e]
    exact k
def spGoal (K : PySem.W.Frag) : Sp := fun vs H Q _ => ∃ (a : Addr) (x y : Str), vs = [.ref a] ∧ SqT K H a [.str x, .str y] ∧ isAns x = true ∧ isName y = true ∧ x.length ≤ 10000 ∧ y.length ≤ 10000 ∧ ∀ H', Same H H' → Q (.bl true) H'
theorem kp_goal (T : Txt K mg) : Kf P w K mg base 3 "is_goal" ["value"] (spGoal K) := by
  refine T.d_igoal.okF sc_igoal (fun vs H Q E h => ?_) (fun f cdv A outer s H vs Q E hA hr h => ?_)
  · obtain ⟨a, x, y, rfl, _⟩ := h
    rfl
  · obtain ⟨a, x, y, rfl, hs, hx, hy, lx, ly, k⟩ := h
    refine ⟨_, (pss_one (ps_ret ((pe_and (pe_kf (kp_pair T) hA hr (by rfl) (pa_cons (pv 0) pa_nil)) (pe_and (pe_kf (kp_answer T) hA hr (by rfl) (pa_cons (pe_ix (ix_tup : IxR _ (rIxT K)) (pv 0) (pe_int) (fun _ _ => rfl)) pa_nil)) (pe_one (pe_kf (kp_name T) hA hr (by rfl) (pa_cons (pe_ix (ix_tup : IxR _ (rIxT K)) (pv 0) (pe_int) (fun _ _ => rfl)) pa_nil)))))))), ?_⟩
    refine ⟨_, rfl, a, _, rfl, hs, _, rfl, iteT ?_⟩
    refine ⟨_, rfl, _, _, _, _, rfl, rfl, hs, rfl, .str x, rfl, .inl ⟨x, rfl, lx, fun H1 s1 => ?_⟩⟩
    rw [show okL 0 4 x = true from hx]
    refine ⟨_, rfl, iteT ?_⟩
    refine ⟨_, rfl, _, _, _, _, rfl, rfl, hs.ext s1, rfl, .str y, rfl, .inl ⟨y, rfl, ly, fun H2 s2 => ?_⟩⟩
    rw [show okL 1 8 y = true from hy]
    exact k _ (s1.trans s2)
def okStep (e : StE) : Prop := isName e.1.1 = true ∧ isLet e.1.2 = true ∧ isAns e.2.1 = true ∧ isName e.2.2 = true
theorem okL_len {lo hi : Nat} {s : Str} (h : okL lo hi s = true) (hh : hi ≤ 10000) : s.length ≤ 10000 := by
  unfold okL at h
  simp only [Bool.and_eq_true, decide_eq_true_eq] at h
  omega
def spSteps (K : PySem.W.Frag) : Sp := fun vs H Q _ => ∃ (d : Addr) (kvs : List (List Key × V)) (st : List StE), vs = [.ref d] ∧ H d = some (.dT kvs) ∧ StK K H kvs st ∧ (kvs.map (·.1)).Nodup ∧
  (∀ e ∈ st, okStep e) ∧ st.length ≤ 1000 ∧ ∀ H', Same H H' → Q (.bl true) H'
theorem sqT_lock {K : PySem.W.Frag} {H : Hp} {d a : Addr} {xs : List V} {kvs : List (List Key × V)} {o : Obj} (hd : H d = some (.dT kvs)) (h : SqT K H a xs) : SqT K (upd H d (.frz o (.dT kvs))) a xs := by
  have ne : ∀ u, H a = some u → u ≠ .dT kvs → upd H d (.frz o (.dT kvs)) a = some u := fun u e n => upd_oth (fun z => n (by rw [z, hd] at e; exact (Option.some.inj e).symm)) e
  rcases h with (h | ⟨o', h⟩) | h
  · exact .inl (.inl (ne _ h (fun z => by cases z)))
  · exact .inl (.inr ⟨o', ne _ h (fun z => by cases z)⟩)
  · exact .inr h
theorem StK.lock {K : PySem.W.Frag} {H : Hp} {d : Addr} {kvs : List (List Key × V)} {st : List StE} {o : Obj} (hd : H d = some (.dT kvs)) (h : StK K H kvs st) : StK K (upd H d (.frz o (.dT kvs))) kvs st :=
  ⟨h.1, fun i e he => let ⟨q, a, b⟩ := h.2 i e he; ⟨q, a, sqT_lock hd b⟩⟩
theorem unlock_same {H H' : Hp} {d : Addr} {u u' : HO} (hd : H d = some u) (s : Same (upd H d u') H') : Same H (upd H' d u) := by
  intro b o e
  by_cases z : b = d
  · subst z
    rw [hd] at e
    cases e
    exact upd_same
  · exact upd_oth z (s _ _ (upd_oth z e))
theorem kp_steps (T : Txt K mg) : Kf P w K mg base 4 "are_steps" ["steps"] (spSteps K) := by
  refine T.d_asteps.okF sc_asteps (fun vs H Q E h => ?_) (fun f cdv A outer s H vs Q E hA hr h => ?_)
  · obtain ⟨d, kvs, st, rfl, _⟩ := h
    rfl
  · obtain ⟨d, kvs, st, rfl, hd, hst, nd, ok, len, k⟩ := h
    refine ⟨_, (pss_cons (ps_if (pt_not (pt_val (pe_callB call_isi (by rfl) (T.nb _ (by decide)) (by decide +kernel) (pa_cons (pv 0) (pa_cons (pe_bltn (v := .ty "dict") (by rfl) (T.nb _ (by decide)) (by decide +kernel) rfl) pa_nil)))))
 (pss_one (ps_ret (pe_bl))) pss_nil)
 (pss_cons (ps_lock (ps_for PassesOwn.never rfl (pi_keys (pv 0)) (pg_name (i := 1) sc_asteps.nd rfl (Or.inl rfl))
 (pss_one (ps_if (PW.pt (pw_or (pt_not (pt_val (pe_kf (kp_pair T) hA hr (by rfl) (pa_cons (pv 1) pa_nil)))) (pw_or (pt_not (pt_val (pe_kf (kp_name T) hA hr (by rfl) (pa_cons (pe_ix (ix_tup : IxR _ (rIxT K)) (pv 1) (pe_int) (fun _ _ => rfl)) pa_nil)))) (pw_or (pt_not (pt_val (pe_kf (kp_letter T) hA hr (by rfl) (pa_cons (pe_ix (ix_tup : IxR _ (rIxT K)) (pv 1) (pe_int) (fun _ _ => rfl)) pa_nil)))) (pw_or1 (pt_not (pt_val (pe_kf (kp_goal T) hA hr (by rfl) (pa_cons (pe_dget (hu_of hr) (pv 0) (pv 1) (fun _ _ => rfl)) pa_nil)))))))))
 (pss_one (ps_ret (pe_bl))) pss_nil))))
 (pss_one (ps_ret (pe_bl))))), ?_⟩
    refine ⟨_, rfl, .ref d, _, _, _, true, rfl, .ty "dict", .base (.dT hd), kit_ty (by decide +kernel), _, rfl, iteF ?_⟩
    refine ⟨d, _, hd, trivial, fun od => ?_⟩
    have hl : upd H d (.frz od (.dT kvs)) d = some (.frz od (.dT kvs)) := upd_same
    have hst' := hst.lock (o := od) hd
    generalize hHL : upd H d (.frz od (.dT kvs)) = HL at hl hst'
    refine ⟨_, rfl, d, od, rfl, .inr ⟨kvs, hl, ?_⟩⟩
    refine for_it (walk_keysT (d := d) (o := od) (kvs := kvs)) (fun i σ H' => (∃ v, σ = [some (.ref d), v]) ∧ Same HL H') ⟨⟨_, rfl⟩, fun _ _ h => h⟩ (fun i σ H' _ p => p.2 _ _ hl) ?_ ?_
    · rintro i x σ H1 H2 hi ⟨⟨v, rfl⟩, sm⟩ ⟨rfl, k0, v0, q, e0, rfl, hq⟩
      have hi' : i < st.length := by rw [hst.len] at hi; exact hi
      obtain ⟨e, he⟩ : ∃ e, st[i]? = some e := ⟨_, List.getElem?_eq_getElem hi'⟩
      obtain ⟨qv, h1, h2⟩ := (hst'.same sm).2 i e he
      rw [h1] at e0
      obtain ⟨rfl, rfl⟩ := Prod.mk.inj (Option.some.inj e0)
      obtain ⟨o1, o2, o3, o4⟩ := ok e (List.mem_of_getElem? he)
      have hq' : H2 q = some (.tup [.str e.1.1, .str e.1.2]) := hq
      dsimp only [gName]
      refine ⟨_, rfl, q, _, rfl, SqT.of hq', _, rfl, iteF ?_⟩
      refine ⟨_, rfl, _, _, _, _, rfl, rfl, SqT.of hq', rfl, .str e.1.1, rfl, .inl ⟨_, rfl, okL_len o1 (by decide), fun H3 s3 => ?_⟩⟩
      rw [show okL 1 8 e.1.1 = true from o1]
      refine ⟨_, rfl, iteF ?_⟩
      refine ⟨_, rfl, _, _, _, _, rfl, rfl, SqT.of (s3 _ _ hq'), rfl, .str e.1.2, rfl, .inl ⟨_, rfl, okL_len o2 (by decide), fun H4 s4 => ?_⟩⟩
      rw [show okL 1 1 e.1.2 = true from o2]
      refine ⟨_, rfl, iteF ?_⟩
      have s34 := s3.trans s4
      refine ⟨_, rfl, _, rfl, d, .ref qv, rfl, .inr ⟨kvs, stK e, q, .inr ⟨od, (sm.trans s34) _ _ hl⟩, rfl, s34 _ _ hq', (valV_at nd h1).symm⟩, ?_⟩
      refine ⟨qv, _, _, rfl, (h2.ext s34), o3, o4, okL_len o3 (by decide), okL_len o4 (by decide), fun H5 s5 => ⟨_, rfl, iteF ?_⟩⟩
      exact ⟨⟨_, rfl⟩, (sm.trans s34).trans s5⟩
    · rintro σ H' ⟨⟨v, rfl⟩, sm⟩
      refine ⟨sm _ _ hl, ?_⟩
      refine k _ (unlock_same (u' := .frz od (.dT kvs)) hd ?_)
      rw [hHL]
      exact sm
def okTail (e : Str × Str) : Prop := isName e.1 = true ∧ isAns e.2 = true
def spTails (K : PySem.W.Frag) : Sp := fun vs H Q _ => ∃ (d : Addr) (tl : List (Str × Str)), vs = [.ref d] ∧ H d = some (.dK (tl.map tlKv)) ∧ (tl.map (·.1)).Nodup ∧
  (∀ e ∈ tl, okTail e) ∧ tl.length ≤ 1000 ∧ ∀ H', Same H H' → Q (.bl true) H'
theorem tl_nd {tl : List (Str × Str)} (h : (tl.map (·.1)).Nodup) : ((tl.map tlKv).map (·.1)).Nodup := by
  rw [List.map_map]
  have e : ((fun (p : Key × V) => p.1) ∘ tlKv) = (fun s : Str => (Sum.inr s : Key)) ∘ (fun p : Str × Str => p.1) := rfl
  rw [e, ← List.map_map]
  exact List.pairwise_map.mpr (List.Pairwise.imp (fun n z => n (Sum.inr.inj z)) h)
theorem kp_tails (T : Txt K mg) : Kf P w K mg base 3 "are_tails" ["tails"] (spTails K) := by
  refine T.d_atails.okF sc_atails (fun vs H Q E h => ?_) (fun f cdv A outer s H vs Q E hA hr h => ?_)
  · obtain ⟨d, tl, rfl, _⟩ := h
    rfl
  · obtain ⟨d, tl, rfl, hd, nd, ok, len, k⟩ := h
    refine ⟨_, (pss_one (ps_ret ((pe_and (pe_callB call_isi (by rfl) (T.nb _ (by decide)) (by decide +kernel) (pa_cons (pv 0) (pa_cons (pe_bltn (v := .ty "dict") (by rfl) (T.nb _ (by decide)) (by decide +kernel) rfl) pa_nil))) (pe_one (pe_callB (cr_all rfl) (by rfl) (T.nb _ (by decide)) (by decide +kernel) (pa_cons (pe_lock (pe_lc (own := [("name", 1)]) (g := gName 1) (tt := tYes) rfl sc_atails.nd (pi_keys (pv 0)) (blkOk_by (N := n_atails) (sc := defScope s_atails) (by decide +kernel)) (fun _ _ _ _ _ => pg_name (i := 1) sc_atails.nd rfl (Or.inl rfl)) (fun _ _ _ _ _ => pts_nil) (fun _ _ _ _ _ => ((pe_and (pe_kf (kp_name T) hA hr (by rfl) (pa_cons (pv 1) pa_nil)) (pe_one (pe_kf (kp_answer T) hA hr (by rfl) (pa_cons (pe_dget (hu_of hr) (pv 0) (pv 1) (fun _ _ => rfl)) pa_nil)))))))) pa_nil))))))), ?_⟩
    refine ⟨_, rfl, .ref d, _, _, _, true, rfl, .ty "dict", .base (.dK hd), kit_ty (by decide +kernel), _, rfl, iteT ?_⟩
    refine ⟨d, _, hd, trivial, fun od => ?_⟩
    have hl : upd H d (.frz od (.dK (tl.map tlKv))) d = some (.frz od (.dK (tl.map tlKv))) := upd_same
    generalize hHL : upd H d (.frz od (.dK (tl.map tlKv))) = HL at hl
    refine ⟨_, rfl, d, od, rfl, .inl ⟨_, hl, fun D hD => ?_⟩⟩
    refine lc_it (walk_keys (d := d) (o := od) (kvs := tl.map tlKv)) (fun i H' => Same HL H' ∧ H' D = some (.lst (List.replicate i (.bl true)))) ⟨Same.new hD, upd_same⟩ (fun i H' _ p => p.1 _ _ hl) ?_ ?_
    · rintro i x H1 H2 hi ⟨sm, hDl⟩ ⟨rfl, k0, v0, e0, rfl⟩
      rw [List.length_map] at hi
      obtain ⟨e, he⟩ : ∃ e, tl[i]? = some e := ⟨_, List.getElem?_eq_getElem hi⟩
      rw [List.getElem?_map, he] at e0
      obtain ⟨rfl, rfl⟩ := Prod.mk.inj (Option.some.inj e0)
      obtain ⟨o1, o2⟩ := ok e (List.mem_of_getElem? he)
      refine ⟨rfl, yes_run ?_⟩
      refine ⟨_, rfl, .str e.1, rfl, .inl ⟨_, rfl, okL_len o1 (by decide), fun H3 s3 => ?_⟩⟩
      rw [show okL 1 8 e.1 = true from o1]
      refine ⟨_, rfl, iteT ?_⟩
      refine ⟨_, rfl, _, rfl, d, .str e.2, rfl, .inl ⟨_, .inr e.1, .inr ⟨od, (sm.trans s3) _ _ hl⟩, rfl, (valV_at (tl_nd nd) (i := i) ?_).symm⟩, ?_⟩
      · rw [List.getElem?_map, he]
        rfl
      refine ⟨.str e.2, rfl, .inl ⟨_, rfl, okL_len o2 (by decide), fun H4 s4 => ?_⟩⟩
      rw [show okL 0 4 e.2 = true from o2]
      have s34 := s3.trans s4
      refine ⟨_, s34 _ _ hDl, ?_, ?_, ?_⟩
      · rw [List.length_replicate]
        exact Nat.lt_of_lt_of_le (Nat.lt_of_lt_of_le hi len) (by decide)
      · intro b o e
        have := (sm.trans s34) _ _ e
        by_cases z : b = D
        · subst z
          rw [hD] at e
          cases e
        · exact upd_oth z this
      · rw [upd_same, List.replicate_succ']
    · rintro H' ⟨sm, hDl⟩
      rw [List.length_map] at hDl
      refine ⟨sm _ _ hl, D, List.replicate tl.length true, rfl, ?_, ?_⟩
      · rw [List.map_replicate]
        exact SqL.of (upd_oth (fun z => by rw [z, hl] at hD; cases hD) hDl)
      · rw [show (List.replicate tl.length true).all id = true by simp]
        refine k _ (unlock_same (u' := .frz od (.dK (tl.map tlKv))) hd ?_)
        rw [hHL]
        exact sm
end
end KC

namespace KC
open PySem L2 PyProof.Rows
/-- behind the others, if it isn't there -/
def addN (l : List Str) (x : Str) : List Str := if x ∈ l then l else l ++ [x]
def nmKv (s : Str) : Key × V := (.inr s, .bl true)
theorem put_nm (l : List Str) (x : Str) : putK (l.map nmKv) (.inr x) (.bl true) = (addN l x).map nmKv := by
  unfold putK addN
  have e : ((l.map nmKv).any fun kv => decide (kv.1 = (Sum.inr x : Key))) = decide (x ∈ l) := by
    rw [List.any_map, Bool.eq_iff_iff, List.any_eq_true, decide_eq_true_eq]
    constructor
    · rintro ⟨y, hy, z⟩
      have : y = x := Sum.inr.inj (of_decide_eq_true z)
      rw [← this]
      exact hy
    · intro h
      exact ⟨x, h, decide_eq_true rfl⟩
  rw [e]
  by_cases h : x ∈ l
  · rw [if_pos (decide_eq_true h), if_pos h, List.map_map]
    refine List.map_congr_left fun y _ => ?_
    show (if (Sum.inr y : Key) = Sum.inr x then (Sum.inr y, V.bl true) else (Sum.inr y, V.bl true)) = (Sum.inr y, V.bl true)
    split <;> rfl
  · rw [if_neg (by simpa using h), if_neg h, List.map_append]
    rfl
def addS (l : List Str) (e : StE) : List Str := addN (addN l e.1.1) e.2.2
/-- the names, as they are come to -/
def namesOf (start : Str) (st : List StE) (tl : List (Str × Str)) : List Str := (tl.map (·.1)).foldl addN (st.foldl addS [start])
def lettersOf (st : List StE) : List Str := (st.map fun e => e.1.2).foldl addN []
theorem addN_len (l : List Str) (x : Str) : (addN l x).length ≤ l.length + 1 := by
  unfold addN
  split
  · omega
  · simp
theorem foldN_len : ∀ (xs : List Str) (l : List Str), (xs.foldl addN l).length ≤ l.length + xs.length
  | [], l => by simp
  | x :: xs, l => by
    rw [List.foldl_cons, List.length_cons]
    have := foldN_len xs (addN l x)
    have := addN_len l x
    omega
theorem foldS_len : ∀ (xs : List StE) (l : List Str), (xs.foldl addS l).length ≤ l.length + 2 * xs.length
  | [], l => by simp
  | x :: xs, l => by
    rw [List.foldl_cons, List.length_cons]
    have := foldS_len xs (addS l x)
    have h1 := addN_len (addN l x.1.1) x.2.2
    have h2 := addN_len l x.1.1
    unfold addS at *
    omega
theorem take_fold {α : Type} {xs : List α} {i : Nat} {x : α} (h : xs[i]? = some x) {β : Type} (f : β → α → β) (b : β) : (xs.take (i + 1)).foldl f b = f ((xs.take i).foldl f b) x := by
  rw [List.take_add_one, h, List.foldl_append]
  rfl
section
variable {P : Program} {w : World} {K : PySem.W.Frag} {mg : Str → Option Value} {base : Heap}
/-- an ascending tuple of these -/
def TupOf (H : Hp) (Q : VK) (xs : List Str) : Prop := ∀ (ys : List Str) (p : Addr) (H' : Hp), ys.Perm xs → sortedS ys = true → H p = none → Same H H' → H' p = some (.tup (ys.map V.str)) → Q (.ref p) H'
def spSnames (K : PySem.W.Frag) : Sp := fun vs H Q _ => ∃ (s : Str) (d t : Addr) (kvs : List (List Key × V)) (st : List StE) (tl : List (Str × Str)), vs = [.str s, .ref d, .ref t] ∧
  H d = some (.dT kvs) ∧ StK K H kvs st ∧ (kvs.map (·.1)).Nodup ∧ st.length ≤ 1000 ∧ H t = some (.dK (tl.map tlKv)) ∧ tl.length ≤ 1000 ∧ (namesOf s st tl).length < 64 ∧ TupOf H Q (namesOf s st tl)
theorem kp_snames (T : Txt K mg) : Kf P w K mg base 1 "state_names" ["start", "steps", "tails"] (spSnames K) := by
  refine T.d_snames.okF sc_snames (fun vs H Q E h => ?_) (fun f cdv A outer s H vs Q E hA hr h => ?_)
  · obtain ⟨s, d, t, kvs, st, tl, rfl, _⟩ := h
    rfl
  · obtain ⟨s, d, t, kvs, st, tl, rfl, hd, hst, nd, len, ht, tlen, n64, k⟩ := h
    refine ⟨_, (pss_cons (ps_set (i := 3) sc_snames.nd rfl (Or.inl rfl) (pe_disp (pps_cons (pv 0) (pe_bl) pps_nil) (by rfl) (by rfl) (fun z => by cases z) (by decide)))
 (pss_cons (ps_lock (ps_for PassesOwn.never rfl (pi_keys (pv 1)) (pg_tup rfl (pgs_cons (pg_name (i := 4) sc_snames.nd rfl (Or.inl rfl)) (pgs_cons (pg_name (i := 5) sc_snames.nd rfl (Or.inl rfl)) pgs_nil)))
 (pss_cons (ps_asg (pe_dget (hu_of hr) (pv 1) (pe_tup (pa_cons (pv 4) (pa_cons (pv 5) pa_nil))) (fun _ _ => rfl)) (pg_tup rfl (pgs_cons (pg_name (i := 6) sc_snames.nd rfl (Or.inl rfl)) (pgs_cons (pg_name (i := 7) sc_snames.nd rfl (Or.inl rfl)) pgs_nil))))
 (pss_cons (ps_asg (pe_bl) (pg_sub (pv 3) (pv 4) (set_dict (hu_of hr))))
 (pss_one (ps_asg (pe_bl) (pg_sub (pv 3) (pv 7) (set_dict (hu_of hr)))))))))
 (pss_cons (ps_lock (ps_for PassesOwn.never rfl (pi_keys (pv 2)) (pg_name (i := 4) sc_snames.nd rfl (Or.inl rfl))
 (pss_one (ps_asg (pe_bl) (pg_sub (pv 3) (pv 4) (set_dict (hu_of hr)))))))
 (pss_one (ps_ret (pe_callTy call_tuple_of (by rfl) (T.nb _ (by decide)) (by decide +kernel) (pa_cons (pe_callB cr_sortedS (by rfl) (T.nb _ (by decide)) (by decide +kernel) (pa_cons (pe_lock (pe_lc (own := [("name", 8)]) (g := gName 8) (tt := tYes) rfl sc_snames.nd (pi_keys (pv 3)) (blkOk_by (N := n_snames) (sc := defScope s_snames) (by decide +kernel)) (fun _ _ _ _ _ => pg_name (i := 8) sc_snames.nd rfl (Or.inl rfl)) (fun _ _ _ _ _ => pts_nil) (fun _ _ _ _ _ => (pe_callTy SkE.call_str_str (by rfl) (T.nb _ (by decide)) (by decide +kernel) (pa_cons (pv 8) pa_nil))))) pa_nil)) pa_nil))))))), ?_⟩
    refine fun nm hnm => ?_
    refine ⟨_, rfl, upd_same, [nmKv s], rfl, (by show 1 ≤ 15; decide), ?_⟩
    have e0 : upd (upd H nm (.dK [])) nm (.dK (mergeK [] [nmKv s])) = upd H nm (.dK ([s].map nmKv)) := upd_upd
    rw [e0]
    have ndm : nm ≠ d := fun z => by rw [z, hd] at hnm; cases hnm
    have ntm : nm ≠ t := fun z => by rw [z, ht] at hnm; cases hnm
    have dt : d ≠ t := fun z => by rw [z, ht] at hd; cases hd
    dsimp only [gName, tSeq, tAsg]
    have hd1 : upd H nm (.dK ([s].map nmKv)) d = some (.dT kvs) := upd_new hnm hd
    refine ⟨d, _, hd1, trivial, fun od => ?_⟩
    have hst1 : StK K (upd (upd H nm (.dK ([s].map nmKv))) d (.frz od (.dT kvs))) kvs st := (hst.same (Same.new hnm)).lock hd1
    have sm0 : Same H (upd (upd (upd H nm (.dK ([s].map nmKv))) d (.frz od (.dT kvs))) d (.dT kvs)) := (Same.new hnm).trans (unlock_same (u' := .frz od (.dT kvs)) hd1 (fun _ _ h => h))
    have hl : upd (upd H nm (.dK ([s].map nmKv))) d (.frz od (.dT kvs)) d = some (.frz od (.dT kvs)) := upd_same
    have hnm1 : upd (upd H nm (.dK ([s].map nmKv))) d (.frz od (.dT kvs)) nm = some (.dK ([s].map nmKv)) := upd_oth ndm upd_same
    have ht1 : upd (upd H nm (.dK ([s].map nmKv))) d (.frz od (.dT kvs)) t = some (.dK (tl.map tlKv)) := upd_oth (Ne.symm dt) (upd_new hnm ht)
    have old : ∀ b o, b ≠ d → H b = some o → upd (upd H nm (.dK ([s].map nmKv))) d (.frz od (.dT kvs)) b = some o := fun b o n e => upd_oth n (upd_new hnm e)
    generalize upd (upd H nm (.dK ([s].map nmKv))) d (.frz od (.dT kvs)) = HL at hst1 hl hnm1 ht1 old sm0
    refine ⟨_, rfl, d, od, rfl, .inr ⟨kvs, hl, ?_⟩⟩
    have nkey : ∀ {H' : Hp} {q : Addr} {kvs' : List (Key × V)}, H' nm = some (.dK kvs') → H' q = none → q ≠ nm := fun h1 h2 z => by rw [z, h1] at h2; cases h2
    refine for_it (walk_keysT (d := d) (o := od) (kvs := kvs)) (fun i σ H' => (∃ a b c e, σ = [some (.str s), some (.ref d), some (.ref t), some (.ref nm), a, b, c, e, none]) ∧
      But nm HL H' ∧ H' nm = some (.dK (((st.take i).foldl addS [s]).map nmKv))) ⟨⟨_, _, _, _, rfl⟩, fun _ _ _ h => h, hnm1⟩ (fun i σ H' _ p => p.2.1 d (Ne.symm ndm) _ hl) ?_ ?_
    · rintro i x σ H1 H2 hi ⟨⟨v4, v5, v6, v7, rfl⟩, bu, hN⟩ ⟨rfl, k0, v0, q, e0, rfl, hq⟩
      have hi' : i < st.length := by rw [hst.len] at hi; exact hi
      obtain ⟨e, he⟩ : ∃ e, st[i]? = some e := ⟨_, List.getElem?_eq_getElem hi'⟩
      obtain ⟨qv, h1, h2⟩ := hst1.2 i e he
      rw [h1] at e0
      obtain ⟨rfl, rfl⟩ := Prod.mk.inj (Option.some.inj e0)
      have hq' : H2 q = some (.tup [.str e.1.1, .str e.1.2]) := hq
      have qn : qv ≠ nm ∨ True := .inr trivial
      refine ⟨q, _, rfl, SqT.of hq', rfl, _, _, rfl, _, _, rfl, rfl, ?_⟩
      refine ⟨_, rfl, _, rfl, _, rfl, (by show 2 ≤ sizeLine; decide), fun kt hkt => ?_⟩
      have ktn := nkey hN hkt
      have h2' : SqT K (upd H2 kt (.tup [.str e.1.1, .str e.1.2])) qv [.str e.2.1, .str e.2.2] := by
        rcases h2 with (h2 | ⟨o', h2⟩) | h2
        · exact .inl (.inl (upd_new hkt (bu _ (fun z => by rw [z, hnm1] at h2; cases h2) _ h2)))
        · exact .inl (.inr ⟨o', upd_new hkt (bu _ (fun z => by rw [z, hnm1] at h2; cases h2) _ h2)⟩)
        · exact .inr h2
      refine ⟨d, .ref qv, rfl, .inr ⟨kvs, stK e, kt, .inr ⟨od, upd_new hkt (bu d (Ne.symm ndm) _ hl)⟩, rfl, upd_same, (valV_at nd h1).symm⟩, ?_⟩
      refine ⟨qv, _, rfl, h2', rfl, _, _, rfl, _, _, rfl, rfl, ?_⟩
      have hN1 : upd H2 kt (.tup [.str e.1.1, .str e.1.2]) nm = some (.dK (((st.take i).foldl addS [s]).map nmKv)) := upd_new hkt hN
      have bl : ((st.take i).foldl addS [s]).length ≤ 2001 := by
        have := foldS_len (st.take i) [s]
        rw [List.length_take] at this
        simp only [List.length_cons, List.length_nil] at this
        omega
      have bl2 : ∀ x, (addN ((st.take i).foldl addS [s]) x).length ≤ 2002 := fun x => Nat.le_trans (addN_len _ _) (by omega)
      refine ⟨_, rfl, _, rfl, nm, _, rfl, .inl ⟨_, .inr e.1.1, hN1, rfl, ?_, rfl⟩, ?_⟩
      · rw [List.length_map]
        exact Nat.lt_of_le_of_lt bl (by decide)
      rw [put_nm]
      refine ⟨_, rfl, _, rfl, nm, _, rfl, .inl ⟨_, .inr e.2.2, upd_same, rfl, ?_, rfl⟩, ?_⟩
      · rw [List.length_map]
        exact Nat.lt_of_le_of_lt (bl2 _) (by decide)
      rw [put_nm, upd_upd]
      refine ⟨⟨_, _, _, _, rfl⟩, fun b hb o eb => upd_oth hb (upd_new hkt (bu b hb o eb)), ?_⟩
      rw [upd_same, take_fold he]
      rfl
    · rintro σ H' ⟨⟨v4, v5, v6, v7, rfl⟩, bu, hN⟩
      refine ⟨bu d (Ne.symm ndm) _ hl, ?_⟩
      rw [List.take_of_length_le (Nat.le_of_eq hst.len.symm)] at hN
      have sm2 : But nm (upd HL d (.dT kvs)) (upd H' d (.dT kvs)) := by
        intro b hb o e
        by_cases z : b = d
        · rw [z, upd_same] at e
          rw [z, upd_same]
          exact e
        · exact upd_oth z (bu b hb o (by rw [upd_ne z] at e; exact e))
      have sm3 : ∀ b o, H b = some o → upd H' d (.dT kvs) b = some o := fun b o e => sm2 b (fun z => by rw [z, hnm] at e; cases e) o (sm0 _ _ e)
      have hN2 : upd H' d (.dT kvs) nm = some (.dK ((st.foldl addS [s]).map nmKv)) := upd_oth ndm hN
      have hdn : ∀ x, upd H' d (.dT kvs) x = none → H x = none := fun x e => by
        cases h : H x with
        | none => rfl
        | some o => rw [sm3 x o h] at e; cases e
      generalize upd H' d (.dT kvs) = G at sm3 hN2 hdn
      clear sm2 bu hN
      -- the tails
      have ht2 := sm3 _ _ ht
      dsimp only [tSeq]
      refine ⟨t, _, ht2, trivial, fun ot => ?_⟩
      have hl2 : upd G t (.frz ot (.dK (tl.map tlKv))) t = some (.frz ot (.dK (tl.map tlKv))) := upd_same
      have hN3 : upd G t (.frz ot (.dK (tl.map tlKv))) nm = some (.dK ((st.foldl addS [s]).map nmKv)) := upd_oth ntm hN2
      have hx : Same H (upd (upd G t (.frz ot (.dK (tl.map tlKv)))) t (.dK (tl.map tlKv))) := Same.trans sm3 (unlock_same (u' := .frz ot (.dK (tl.map tlKv))) ht2 (fun _ _ h => h))
      generalize upd G t (.frz ot (.dK (tl.map tlKv))) = GL at hl2 hN3 hx
      refine ⟨_, rfl, t, ot, rfl, .inl ⟨_, hl2, ?_⟩⟩
      refine for_it (walk_keys (d := t) (o := ot) (kvs := tl.map tlKv)) (fun i σ H' => (∃ a b c e, σ = [some (.str s), some (.ref d), some (.ref t), some (.ref nm), a, b, c, e, none]) ∧
        But nm GL H' ∧ H' nm = some (.dK ((((tl.take i).map (·.1)).foldl addN (st.foldl addS [s])).map nmKv))) ⟨⟨_, _, _, _, rfl⟩, fun _ _ _ h => h, hN3⟩ (fun i σ H' _ p => p.2.1 t (Ne.symm ntm) _ hl2) ?_ ?_
      · rintro i x σ H1 H2 hi ⟨⟨v4, v5, v6, v7, rfl⟩, bu, hN⟩ ⟨rfl, k0, v0, e0, rfl⟩
        rw [List.length_map] at hi
        obtain ⟨e, he⟩ : ∃ e, tl[i]? = some e := ⟨_, List.getElem?_eq_getElem hi⟩
        rw [List.getElem?_map, he] at e0
        obtain ⟨rfl, rfl⟩ := Prod.mk.inj (Option.some.inj e0)
        have bl : (((tl.take i).map (·.1)).foldl addN (st.foldl addS [s])).length ≤ 3001 := by
          have h1 := foldS_len st [s]
          have h2 := foldN_len ((tl.take i).map (·.1)) (st.foldl addS [s])
          rw [List.length_map, List.length_take] at h2
          simp only [List.length_cons, List.length_nil] at h1
          omega
        dsimp only [gName]
        refine ⟨_, rfl, _, rfl, nm, _, rfl, .inl ⟨_, .inr e.1, hN, rfl, ?_, rfl⟩, ?_⟩
        · rw [List.length_map]
          exact Nat.lt_of_le_of_lt bl (by decide)
        rw [put_nm]
        refine ⟨⟨_, _, _, _, rfl⟩, fun b hb o eb => upd_oth hb (bu b hb o eb), ?_⟩
        have he' : (tl.map (·.1))[i]? = some e.1 := by rw [List.getElem?_map, he]; rfl
        rw [upd_same, List.map_take, List.map_take, take_fold he']
      · rintro σ H' ⟨⟨v4, v5, v6, v7, rfl⟩, bu, hN⟩
        rw [List.length_map, List.take_of_length_le (Nat.le_refl _)] at hN
        refine ⟨bu t (Ne.symm ntm) _ hl2, ?_⟩
        have hN4 : upd H' t (.dK (tl.map tlKv)) nm = some (.dK ((namesOf s st tl).map nmKv)) := upd_oth ntm hN
        have sm4 : Same H (upd H' t (.dK (tl.map tlKv))) := by
          intro b o e
          have bn : b ≠ nm := fun z => by rw [z, hnm] at e; cases e
          by_cases z : b = t
          · subst z
            rw [ht] at e
            cases e
            exact upd_same
          · have := hx _ _ e
            rw [upd_ne z] at this
            exact upd_oth z (bu b bn o this)
        generalize upd H' t (.dK (tl.map tlKv)) = F at hN4 sm4
        -- sorted
        dsimp only [tRet, tCB, tCons]
        refine ⟨nm, _, hN4, trivial, fun on => ?_⟩
        have hl3 : upd F nm (.frz on (.dK ((namesOf s st tl).map nmKv))) nm = some (.frz on (.dK ((namesOf s st tl).map nmKv))) := upd_same
        refine tlc_keys (d := nm) (o := on) (kvs := (namesOf s st tl).map nmKv) (r := fun _ x => some x) hl3 (by rw [List.length_map]; exact Nat.le_of_lt (Nat.lt_of_lt_of_le n64 (by decide))) (fun R h => ⟨_, rfl, h⟩) ?_ ?_
        · intro i x H' hx _ Ky Kn hy _
          rw [List.map_map, List.getElem?_map] at hx
          cases en : (namesOf s st tl)[i]? with
          | none => rw [en] at hx; cases hx
          | some z =>
            rw [en] at hx
            obtain rfl : V.str z = x := Option.some.inj hx
            exact ⟨rfl, yes_run ⟨_, rfl, z, rfl, hy _ rfl⟩⟩
        · intro D hD
          have ef : fm (fun _ x => some x) 0 (((namesOf s st tl).map nmKv).map fun kv => kV kv.1) = (namesOf s st tl).map V.str := by
            rw [L2.fm_map (fun x => x) _ (fun _ _ => rfl), List.map_id', List.map_map]
            rfl
          rw [ef]
          have nD : nm ≠ D := fun z => by rw [← z, hl3] at hD; cases hD
          refine ⟨upd_oth nD hl3, ?_⟩
          have sF := unlock_same hN4 (Same.new (u := .lst ((namesOf s st tl).map V.str)) hD)
          have hDF : upd (upd (upd F nm (.frz on (.dK ((namesOf s st tl).map nmKv)))) D (.lst ((namesOf s st tl).map V.str))) nm (.dK ((namesOf s st tl).map nmKv)) D = some (.lst ((namesOf s st tl).map V.str)) := upd_oth (Ne.symm nD) upd_same
          generalize upd (upd (upd F nm (.frz on (.dK ((namesOf s st tl).map nmKv)))) D (.lst ((namesOf s st tl).map V.str))) nm (.dK ((namesOf s st tl).map nmKv)) = FF at sF hDF
          refine ⟨D, _, rfl, SqL.of hDF, n64, fun ys p hperm hsort hp => ?_⟩
          refine ⟨p, _, rfl, .inl ⟨SqL.of upd_same, fun l hl => ?_⟩⟩
          have sAll : Same H (upd (upd FF p (.lst (ys.map V.str))) l (.tup (ys.map V.str))) := (sm4.trans sF).trans ((Same.new hp).trans (Same.new hl))
          refine k ys l _ hperm hsort ?_ sAll upd_same
          have := ((sm4.trans sF).trans (Same.new (u := .lst (ys.map V.str)) hp)).free hl
          exact this
end
end KC

namespace KC
open PySem L2 PyProof.Rows
section
variable {P : Program} {w : World} {K : PySem.W.Frag} {mg : Str → Option Value} {base : Heap}
def spSletters (K : PySem.W.Frag) : Sp := fun vs H Q _ => ∃ (d : Addr) (kvs : List (List Key × V)) (st : List StE), vs = [.ref d] ∧
  H d = some (.dT kvs) ∧ StK K H kvs st ∧ st.length ≤ 1000 ∧ (lettersOf st).length < 64 ∧ TupOf H Q (lettersOf st)
theorem kp_sletters (T : Txt K mg) : Kf P w K mg base 1 "step_letters" ["steps"] (spSletters K) := by
  refine T.d_sletters.okF sc_sletters (fun vs H Q E h => ?_) (fun f cdv A outer s H vs Q E hA hr h => ?_)
  · obtain ⟨d, kvs, st, rfl, _⟩ := h
    rfl
  · obtain ⟨d, kvs, st, rfl, hd, hst, len, n64, k⟩ := h
    refine ⟨_, (pss_cons (ps_lock (ps_setDc (i := 1) (own := [("state", 2), ("letter", 3)]) (g := gTup K 2 (gCons (gName 2) (gCons (gName 3) gNil))) (tt := tYes) rfl sc_sletters.nd rfl rfl (swap_dict rfl rfl rfl (by decide +kernel)) (pi_keys (pv 0)) (blkOk_by (N := n_sletters) (sc := defScope s_sletters) (by decide +kernel)) (fun _ _ _ _ _ => pg_tup rfl (pgs_cons (pg_name (i := 2) sc_sletters.nd rfl (Or.inl rfl)) (pgs_cons (pg_name (i := 3) sc_sletters.nd rfl (Or.inl rfl)) pgs_nil))) (fun _ _ _ _ _ => pts_nil) (fun _ _ _ _ _ => (pv 3)) (fun _ _ _ _ _ => (pe_bl))))
 (pss_one (ps_ret (pe_callTy call_tuple_of (by rfl) (T.nb _ (by decide)) (by decide +kernel) (pa_cons (pe_callB cr_sortedS (by rfl) (T.nb _ (by decide)) (by decide +kernel) (pa_cons (pe_lock (pe_lc (own := [("letter", 3)]) (g := gName 3) (tt := tYes) rfl sc_sletters.nd (pi_keys (pv 1)) (blkOk_by (N := n_sletters) (sc := defScope s_sletters) (by decide +kernel)) (fun _ _ _ _ _ => pg_name (i := 3) sc_sletters.nd rfl (Or.inl rfl)) (fun _ _ _ _ _ => pts_nil) (fun _ _ _ _ _ => (pe_callTy SkE.call_str_str (by rfl) (T.nb _ (by decide)) (by decide +kernel) (pa_cons (pv 3) pa_nil))))) pa_nil)) pa_nil))))), ?_⟩
    refine ⟨d, _, hd, trivial, fun od => ?_⟩
    have hst1 := hst.lock (o := od) hd
    have hl : upd H d (.frz od (.dT kvs)) d = some (.frz od (.dT kvs)) := upd_same
    have old : Same H (upd (upd H d (.frz od (.dT kvs))) d (.dT kvs)) := unlock_same (u' := .frz od (.dT kvs)) hd (fun _ _ h => h)
    generalize eHL : upd H d (.frz od (.dT kvs)) = HL at hst1 hl old
    refine ⟨_, rfl, d, od, rfl, .inr ⟨kvs, hl, fun D hD => ?_⟩⟩
    refine dcK_it (walk_keysT (d := d) (o := od) (kvs := kvs)) (fun i H' => Same HL H' ∧ H' D = some (.dK ((((st.take i).map fun e => e.1.2).foldl addN []).map nmKv))) ⟨Same.new hD, upd_same⟩ (fun i H' _ p => p.1 _ _ hl) ?_ ?_
    · rintro i x H1 H2 hi ⟨sm, hDl⟩ ⟨rfl, k0, v0, q, e0, rfl, hq⟩
      have hi' : i < st.length := by rw [hst.len] at hi; exact hi
      obtain ⟨e, he⟩ : ∃ e, st[i]? = some e := ⟨_, List.getElem?_eq_getElem hi'⟩
      obtain ⟨qv, h1, h2⟩ := hst1.2 i e he
      rw [h1] at e0
      obtain ⟨rfl, rfl⟩ := Prod.mk.inj (Option.some.inj e0)
      have hq' : H2 q = some (.tup [.str e.1.1, .str e.1.2]) := hq
      refine ⟨q, _, rfl, SqT.of hq', rfl, _, _, rfl, _, _, rfl, rfl, rfl, yes_run ?_⟩
      refine ⟨_, rfl, _, .inr e.1.2, rfl, hDl, ?_, ?_, ?_⟩
      · rw [List.length_map]
        have := foldN_len ((st.take i).map fun e => e.1.2) []
        rw [List.length_map, List.length_take] at this
        simp only [List.length_nil] at this
        exact Nat.lt_of_le_of_lt (show _ ≤ 1000 by omega) (by decide)
      · intro b o eb
        exact upd_oth (fun z => by rw [z, hD] at eb; cases eb) (sm _ _ eb)
      · rw [put_nm, upd_same]
        have he' : (st.map fun e => e.1.2)[i]? = some e.1.2 := by rw [List.getElem?_map, he]; rfl
        rw [List.map_take, List.map_take, take_fold he']
    · rintro H' ⟨sm, hDl⟩
      rw [List.take_of_length_le (Nat.le_of_eq hst.len.symm)] at hDl
      dsimp only [gName]
      have dD : D ≠ d := fun z => by rw [z, hl] at hD; cases hD
      refine ⟨sm _ _ hl, ?_⟩
      have sm4 : Same H (upd H' d (.dT kvs)) := unlock_same (u' := .frz od (.dT kvs)) hd (by rw [eHL]; exact sm)
      have hN4 : upd H' d (.dT kvs) D = some (.dK ((lettersOf st).map nmKv)) := upd_oth dD hDl
      generalize upd H' d (.dT kvs) = F at hN4 sm4
      dsimp only [tRet, tCB, tCons]
      refine ⟨D, _, hN4, trivial, fun on => ?_⟩
      have hl3 : upd F D (.frz on (.dK ((lettersOf st).map nmKv))) D = some (.frz on (.dK ((lettersOf st).map nmKv))) := upd_same
      refine tlc_keys (d := D) (o := on) (kvs := (lettersOf st).map nmKv) (r := fun _ x => some x) hl3 (by rw [List.length_map]; exact Nat.le_of_lt (Nat.lt_of_lt_of_le n64 (by decide))) (fun R h => ⟨_, rfl, h⟩) ?_ ?_
      · intro i x H' hx _ Ky Kn hy _
        rw [List.map_map, List.getElem?_map] at hx
        cases en : (lettersOf st)[i]? with
        | none => rw [en] at hx; cases hx
        | some z =>
          rw [en] at hx
          obtain rfl : V.str z = x := Option.some.inj hx
          exact ⟨rfl, yes_run ⟨_, rfl, z, rfl, hy _ rfl⟩⟩
      · intro L hL
        have ef : fm (fun _ x => some x) 0 (((lettersOf st).map nmKv).map fun kv => kV kv.1) = (lettersOf st).map V.str := by
          rw [L2.fm_map (fun x => x) _ (fun _ _ => rfl), List.map_id', List.map_map]
          rfl
        rw [ef]
        have nL : D ≠ L := fun z => by rw [← z, hl3] at hL; cases hL
        refine ⟨upd_oth nL hl3, ?_⟩
        have sF := unlock_same hN4 (Same.new (u := .lst ((lettersOf st).map V.str)) hL)
        have hDF : upd (upd (upd F D (.frz on (.dK ((lettersOf st).map nmKv)))) L (.lst ((lettersOf st).map V.str))) D (.dK ((lettersOf st).map nmKv)) L = some (.lst ((lettersOf st).map V.str)) := upd_oth (Ne.symm nL) upd_same
        generalize upd (upd (upd F D (.frz on (.dK ((lettersOf st).map nmKv)))) L (.lst ((lettersOf st).map V.str))) D (.dK ((lettersOf st).map nmKv)) = FF at sF hDF
        refine ⟨L, _, rfl, SqL.of hDF, n64, fun ys p hperm hsort hp => ?_⟩
        refine ⟨p, _, rfl, .inl ⟨SqL.of upd_same, fun l hl => ?_⟩⟩
        have sAll : Same H (upd (upd FF p (.lst (ys.map V.str))) l (.tup (ys.map V.str))) := (sm4.trans sF).trans ((Same.new hp).trans (Same.new hl))
        exact k ys l _ hperm hsort (((sm4.trans sF).trans (Same.new (u := .lst (ys.map V.str)) hp)).free hl) sAll upd_same
end
end KC

namespace KC
open PySem L2 PyProof.Rows
def gC (mg : Str → Option Value) : Addr := adr mg "Converter"
structure TxC (K : PySem.W.Frag) (mg : Str → Option Value) : Prop where
  T : Txt K mg
  mgC : mg "Converter" = some (.ref (gC mg))
  cls : Cls K (gC mg)
  nA : ∀ x ∈ ["start", "states", "letters", "steps", "tails"], NoAttr K (gC mg) x
  most : ∃ u, Con K (gC mg) "MOST" (.int 6) u
  mostL : ∃ u, Con K (gC mg) "MOST_LETTERS" (.int 4) u
  init : ∃ f fd, Mk K (gC mg) f ∧ MD K "__init__" "Converter.__init__" s_init [] f fd ∧ Binds K fd ["self", "start", "steps", "tails"] []
/-- a dict of steps, as the package keeps it -/
structure StAt (K : PySem.W.Frag) (H : Hp) (d : Addr) (st : List StE) : Prop where
  ex : ∃ kvs, H d = some (.dT kvs) ∧ StK K H kvs st ∧ (kvs.map (·.1)).Nodup
def flds (s : Str) (ss ls d t : Addr) : List (Str × V) := [("start", .str s), ("states", .ref ss), ("letters", .ref ls), ("steps", .ref d), ("tails", .ref t)]
/-- a converter of these parts -/
def CvAt (K : PySem.W.Frag) (C : Addr) (H : Hp) (x : Addr) (s : Str) (st : List StE) (tl : List (Str × Str)) : Prop :=
  ∃ (dx ss ls d t : Addr) (ys zs : List Str), H x = some (.ins C dx (flds s ss ls d t)) ∧ H ss = some (.tup (ys.map V.str)) ∧ ys.Perm (namesOf s st tl) ∧ sortedS ys = true ∧
    H ls = some (.tup (zs.map V.str)) ∧ zs.Perm (lettersOf st) ∧ sortedS zs = true ∧ StAt K H d st ∧ H t = some (.dK (tl.map tlKv)) ∧ (tl.map (·.1)).Nodup
theorem StAt.same {K : PySem.W.Frag} {H H' : Hp} {d : Addr} {st : List StE} (h : StAt K H d st) (s : Same H H') : StAt K H' d st := by
  obtain ⟨kvs, a, b, c⟩ := h.ex
  exact ⟨kvs, s _ _ a, b.same s, c⟩
theorem CvAt.same {K : PySem.W.Frag} {C : Addr} {H H' : Hp} {x : Addr} {s : Str} {st : List StE} {tl : List (Str × Str)} (h : CvAt K C H x s st tl) (m : Same H H') : CvAt K C H' x s st tl := by
  obtain ⟨dx, ss, ls, d, t, ys, zs, h1, h2, h3, h4, h5, h6, h7, h8, h9, h10⟩ := h
  exact ⟨dx, ss, ls, d, t, ys, zs, m _ _ h1, m _ _ h2, h3, h4, m _ _ h5, h6, h7, h8.same m, m _ _ h9, h10⟩
theorem put_take {kvs : List (List Key × V)} {i : Nat} {k : List Key} {v : V} (nd : (kvs.map (·.1)).Nodup) (h : kvs[i]? = some (k, v)) : putK (kvs.take i) k v = kvs.take (i + 1) := by
  have no : ((kvs.take i).any fun kv => decide (kv.1 = k)) = false := by
    rw [List.any_eq_false]
    intro p hp z
    obtain ⟨j, hj, e⟩ := List.mem_iff_getElem.mp hp
    rw [List.length_take] at hj
    rw [List.getElem_take] at e
    have e1 : (kvs.map (·.1))[j]? = some k := by
      rw [List.getElem?_map, List.getElem?_eq_getElem (by omega), e]
      exact congrArg some (of_decide_eq_true z)
    have e2 : (kvs.map (·.1))[i]? = some k := by rw [List.getElem?_map, h]; rfl
    have li := (List.getElem?_eq_some_iff.mp h).1
    have := (List.getElem?_inj (by rw [List.length_map]; omega) nd).mp (e1.trans e2.symm)
    omega
  unfold putK
  rw [no]
  simp only [Bool.false_eq_true, if_false]
  rw [List.take_add_one, h]
  rfl
theorem put_takeK {kvs : List (Key × V)} {i : Nat} {k : Key} {v : V} (nd : (kvs.map (·.1)).Nodup) (h : kvs[i]? = some (k, v)) : putK (kvs.take i) k v = kvs.take (i + 1) := by
  have no : ((kvs.take i).any fun kv => decide (kv.1 = k)) = false := by
    rw [List.any_eq_false]
    intro p hp z
    obtain ⟨j, hj, e⟩ := List.mem_iff_getElem.mp hp
    rw [List.length_take] at hj
    rw [List.getElem_take] at e
    have e1 : (kvs.map (·.1))[j]? = some k := by
      rw [List.getElem?_map, List.getElem?_eq_getElem (by omega), e]
      exact congrArg some (of_decide_eq_true z)
    have e2 : (kvs.map (·.1))[i]? = some k := by rw [List.getElem?_map, h]; rfl
    have li := (List.getElem?_eq_some_iff.mp h).1
    have := (List.getElem?_inj (by rw [List.length_map]; omega) nd).mp (e1.trans e2.symm)
    omega
  unfold putK
  rw [no]
  simp only [Bool.false_eq_true, if_false]
  rw [List.take_add_one, h]
  rfl
section
variable {P : Program} {w : World} {K : PySem.W.Frag} {mg : Str → Option Value} {base : Heap}
/-- what parts a converter can be made of -/
structure OkParts (s : Str) (st : List StE) (tl : List (Str × Str)) : Prop where
  os : isName s = true
  ost : ∀ e ∈ st, okStep e
  lst : st.length ≤ 1000
  otl : ∀ e ∈ tl, okTail e
  ltl : tl.length ≤ 1000
  n6 : (namesOf s st tl).length ≤ 6
  l4 : (lettersOf st).length ≤ 4
def spInit (K : PySem.W.Frag) (C : Addr) : Sp := fun vs H Q _ => ∃ (x dx d t : Addr) (s : Str) (st : List StE) (tl : List (Str × Str)), vs = [.ref x, .str s, .ref d, .ref t] ∧ H x = some (.ins C dx []) ∧
  StAt K H d st ∧ H t = some (.dK (tl.map tlKv)) ∧ (tl.map (·.1)).Nodup ∧ OkParts s st tl ∧ ∀ H', But x H H' → CvAt K C H' x s st tl → Q .non H'
theorem kp_init (TC : TxC K mg) : KmkN P w K mg base (gC mg) 5 ["self", "start", "steps", "tails"] (spInit K (gC mg)) := by
  have T := TC.T
  obtain ⟨f, fd, M, F, b0⟩ := TC.init
  refine ⟨f, fd, M, b0, F.okM sc_init (fun vs H Q E h => ?_) (fun f cdv A outer s H vs Q E hA hr h => ?_)⟩
  · obtain ⟨x, dx, d, t, s, st, tl, rfl, _⟩ := h
    rfl
  · obtain ⟨x, dx, d, t, s, st, tl, rfl, hx, ⟨kvs, hd, hst, nd⟩, ht, ndt, ok, k⟩ := h
    refine ⟨_, (pss_cons (ps_if (pt_not (pt_val (pe_kf (kp_name T) hA hr (by rfl) (pa_cons (pv 1) pa_nil))))
 (pss_one (ps_never)) pss_nil)
 (pss_cons (ps_if (pt_not (pt_val (pe_kf (kp_steps T) hA hr (by rfl) (pa_cons (pv 2) pa_nil))))
 (pss_one (ps_never)) pss_nil)
 (pss_cons (ps_if (pt_not (pt_val (pe_kf (kp_tails T) hA hr (by rfl) (pa_cons (pv 3) pa_nil))))
 (pss_one (ps_never)) pss_nil)
 (pss_cons (ps_set (i := 4) sc_init.nd rfl (Or.inl rfl) (pe_kf (kp_snames T) hA hr (by rfl) (pa_cons (pv 1) (pa_cons (pv 2) (pa_cons (pv 3) pa_nil)))))
 (pss_cons (ps_set (i := 5) sc_init.nd rfl (Or.inl rfl) (pe_kf (kp_sletters T) hA hr (by rfl) (pa_cons (pv 2) pa_nil)))
 (pss_cons (ps_if (pt_cmpR op_gt (pe_callB call_len (by rfl) (T.nb _ (by decide)) PySem.boot_len (pa_cons (pv 4) pa_nil)) (pe_con (pv 0) rfl) (nomark _))
 (pss_one (ps_never)) pss_nil)
 (pss_cons (ps_if (pt_cmpR op_gt (pe_callB call_len (by rfl) (T.nb _ (by decide)) PySem.boot_len (pa_cons (pv 5) pa_nil)) (pe_con (pv 0) rfl) (nomark _))
 (pss_one (ps_never)) pss_nil)
 (pss_cons (ps_fld (pv 0) (pv 1) rfl)
 (pss_cons (ps_fld (pv 0) (pv 4) rfl)
 (pss_cons (ps_fld (pv 0) (pv 5) rfl)
 (pss_cons (ps_fld (pv 0) (pe_lock (pe_dcT (hu2_of hr) (own := [("key", 6)]) (g := gName 6) (tt := tYes) rfl sc_init.nd (pi_keys (pv 2)) (blkOk_by (N := n_init) (sc := defScope s_init) (by decide +kernel)) (fun _ _ _ _ _ => pg_name (i := 6) sc_init.nd rfl (Or.inl rfl)) (fun _ _ _ _ _ => pts_nil) (fun _ _ _ _ _ => (pv 6)) (fun _ _ _ _ _ => (pe_dget (hu_of hr) (pv 2) (pv 6) (fun _ _ => rfl))))) rfl)
 (pss_one (ps_fld (pv 0) (pe_lock (pe_dc (own := [("state", 7)]) (g := gName 7) (tt := tYes) rfl sc_init.nd (pi_keys (pv 3)) (blkOk_by (N := n_init) (sc := defScope s_init) (by decide +kernel)) (fun _ _ _ _ _ => pg_name (i := 7) sc_init.nd rfl (Or.inl rfl)) (fun _ _ _ _ _ => pts_nil) (fun _ _ _ _ _ => (pv 7)) (fun _ _ _ _ _ => (pe_dget (hu_of hr) (pv 3) (pv 7) (fun _ _ => rfl))))) rfl))))))))))))), ?_⟩
    have nx : ∀ {H' : Hp} {b : Addr} {o : HO}, H' x = some (.ins (gC mg) dx []) → H' b = some o → (∀ C dx fs, o ≠ .ins C dx fs) → b ≠ x := fun h1 h2 h3 z => by
      rw [z, h1] at h2
      exact h3 _ _ _ (Option.some.inj h2).symm
    refine ⟨_, rfl, .str s, rfl, .inl ⟨s, rfl, okL_len ok.os (by decide), fun H1 s1 => ?_⟩⟩
    rw [show okL 1 8 s = true from ok.os]
    refine ⟨_, rfl, iteF ?_⟩
    refine ⟨_, rfl, d, kvs, st, rfl, s1 _ _ hd, hst.same s1, nd, ok.ost, ok.lst, fun H2 s2 => ⟨_, rfl, iteF ?_⟩⟩
    have s02 := s1.trans s2
    refine ⟨_, rfl, t, tl, rfl, s02 _ _ ht, ndt, ok.otl, ok.ltl, fun H3 s3 => ⟨_, rfl, iteF ?_⟩⟩
    have s03 := s02.trans s3
    refine ⟨_, rfl, _, rfl, _, rfl, s, d, t, kvs, st, tl, rfl, s03 _ _ hd, hst.same s03, nd, ok.lst, s03 _ _ ht, ok.ltl, Nat.lt_of_le_of_lt ok.n6 (by decide), fun ys ss H4 hperm hsort hss s4 hss4 => ?_⟩
    have s04 := s03.trans s4
    refine ⟨_, rfl, d, kvs, st, rfl, s04 _ _ hd, hst.same s04, ok.lst, Nat.lt_of_le_of_lt ok.l4 (by decide), fun zs ls H5 hperm2 hsort2 hls s5 hls5 => ?_⟩
    have s05 := s04.trans s5
    have hss5 := s5 _ _ hss4
    have hx5 := s05 _ _ hx
    obtain ⟨u1, c1⟩ := TC.most
    obtain ⟨u2, c2⟩ := TC.mostL
    have ly : ys.length ≤ 6 := by rw [hperm.length_eq]; exact ok.n6
    have lz : zs.length ≤ 4 := by rw [hperm2.length_eq]; exact ok.l4
    refine ⟨_, rfl, .ref ss, _, rfl, .inr ⟨_, SqT.of hss5, rfl⟩, _, rfl, x, _, dx, _, _, u1, rfl, hx5, TC.cls, c1, rfl, _, _, rfl, rfl, _, rfl, ?_⟩
    rw [List.length_map, decide_eq_false (by omega)]
    refine iteF ?_
    refine ⟨_, rfl, .ref ls, _, rfl, .inr ⟨_, SqT.of hls5, rfl⟩, _, rfl, x, _, dx, _, _, u2, rfl, hx5, TC.cls, c2, rfl, _, _, rfl, rfl, _, rfl, ?_⟩
    rw [List.length_map, decide_eq_false (by omega)]
    refine iteF ?_
    refine ⟨_, rfl, _, rfl, x, _, dx, [], rfl, hx5, TC.cls, TC.nA _ (by decide), by show 0 < 1000; decide, ?_⟩
    refine ⟨_, rfl, _, rfl, x, _, dx, _, rfl, upd_same, TC.cls, TC.nA _ (by decide), by show 1 < 1000; decide, ?_⟩
    rw [upd_upd]
    refine ⟨_, rfl, _, rfl, x, _, dx, _, rfl, upd_same, TC.cls, TC.nA _ (by decide), by show 2 < 1000; decide, ?_⟩
    rw [upd_upd]
    have no : ∀ {b : Addr} {o : HO}, H5 b = some o → (∀ C dx fs, o ≠ .ins C dx fs) → b ≠ x := fun h2 h3 => nx hx5 h2 h3
    have ndx : d ≠ x := no (s05 _ _ hd) (fun _ _ _ z => by cases z)
    have ntx : t ≠ x := no (s05 _ _ ht) (fun _ _ _ z => by cases z)
    have nsx : ss ≠ x := no hss5 (fun _ _ _ z => by cases z)
    have nlx : ls ≠ x := no hls5 (fun _ _ _ z => by cases z)
    have dt : d ≠ t := fun z => by rw [z, ht] at hd; cases hd
    have bx : But x H (upd H5 x (.ins (gC mg) dx [("start", .str s), ("states", .ref ss), ("letters", .ref ls)])) := fun b hb o e => upd_oth hb (s05 _ _ e)
    have stE : StK K (upd H5 x (.ins (gC mg) dx [("start", .str s), ("states", .ref ss), ("letters", .ref ls)])) kvs st := by
      refine ⟨hst.1, fun i e he => ?_⟩
      obtain ⟨q, a1, a2⟩ := hst.2 i e he
      refine ⟨q, a1, ?_⟩
      rcases a2 with (a2 | ⟨o', a2⟩) | a2
      · exact .inl (.inl (bx _ (no (s05 _ _ a2) (fun _ _ _ z => by cases z)) _ a2))
      · exact .inl (.inr ⟨o', bx _ (no (s05 _ _ a2) (fun _ _ _ z => by cases z)) _ a2⟩)
      · exact .inr a2
    have hx6 : upd H5 x (.ins (gC mg) dx [("start", .str s), ("states", .ref ss), ("letters", .ref ls)]) x = some (.ins (gC mg) dx [("start", .str s), ("states", .ref ss), ("letters", .ref ls)]) := upd_same
    have hd6 := bx d ndx _ hd
    have ht6 := bx t ntx _ ht
    have hs6 : upd H5 x (.ins (gC mg) dx [("start", .str s), ("states", .ref ss), ("letters", .ref ls)]) ss = some (.tup (ys.map V.str)) := upd_oth nsx hss5
    have hl6 : upd H5 x (.ins (gC mg) dx [("start", .str s), ("states", .ref ss), ("letters", .ref ls)]) ls = some (.tup (zs.map V.str)) := upd_oth nlx hls5
    have e3 : putF "letters" (V.ref ls) (putF "states" (V.ref ss) (putF "start" (V.str s) [])) = ([("start", .str s), ("states", .ref ss), ("letters", .ref ls)] : List (Str × V)) := rfl
    rw [e3]
    generalize upd H5 x (.ins (gC mg) dx [("start", .str s), ("states", .ref ss), ("letters", .ref ls)]) = H6 at bx stE hx6 hd6 ht6 hs6 hl6
    -- the steps
    refine ⟨d, _, hd6, trivial, fun od => ?_⟩
    have hl : upd H6 d (.frz od (.dT kvs)) d = some (.frz od (.dT kvs)) := upd_same
    generalize eHL : upd H6 d (.frz od (.dT kvs)) = HL at hl
    refine ⟨_, rfl, d, od, rfl, .inr ⟨kvs, hl, fun D hD => ?_⟩⟩
    refine dcT_it (walk_keysT (d := d) (o := od) (kvs := kvs)) (fun i H' => Same HL H' ∧ H' D = some (.dT (kvs.take i))) ⟨Same.new hD, upd_same⟩ (fun i H' _ p => p.1 _ _ hl) ?_ ?_
    · rintro i x0 A1 A2 hi ⟨sm, hDl⟩ ⟨rfl, k0, v0, q, e0, rfl, hq⟩
      refine ⟨rfl, yes_run ?_⟩
      refine ⟨_, rfl, _, rfl, _, rfl, d, v0, rfl, .inr ⟨kvs, k0, q, .inr ⟨od, sm _ _ hl⟩, rfl, hq, (valV_at nd e0).symm⟩, ?_⟩
      refine ⟨_, k0, q, rfl, hq, hDl, ?_, ?_, ?_⟩
      · rw [List.length_take]
        have : kvs.length ≤ 1000 := by rw [hst.len]; exact ok.lst
        exact Nat.lt_of_le_of_lt (show _ ≤ 1000 by omega) (by decide)
      · intro b o eb
        exact upd_oth (fun z => by rw [z, hD] at eb; cases eb) (sm _ _ eb)
      · rw [put_take nd e0, upd_same]
    rintro A1 ⟨sm, hDl⟩
    rw [List.take_of_length_le (Nat.le_refl _)] at hDl
    have dD : D ≠ d := fun z => by rw [z, hl] at hD; cases hD
    refine ⟨sm _ _ hl, ?_⟩
    have s6 : Same H6 (upd A1 d (.dT kvs)) := unlock_same (u' := .frz od (.dT kvs)) hd6 (by rw [eHL]; exact sm)
    have hD6 : upd A1 d (.dT kvs) D = some (.dT kvs) := upd_oth dD hDl
    generalize upd A1 d (.dT kvs) = F at s6 hD6
    have hx7 := s6 _ _ hx6
    refine ⟨_, rfl, x, _, dx, _, rfl, hx7, TC.cls, TC.nA _ (by decide), by show 3 < 1000; decide, ?_⟩
    have e4 : putF "steps" (V.ref D) ([("start", .str s), ("states", .ref ss), ("letters", .ref ls)] : List (Str × V)) = ([("start", .str s), ("states", .ref ss), ("letters", .ref ls), ("steps", .ref D)] : List (Str × V)) := rfl
    rw [e4]
    have dDx : D ≠ x := fun z => by rw [z, hx7] at hD6; cases hD6
    have b7 : But x H6 (upd F x (.ins (gC mg) dx [("start", .str s), ("states", .ref ss), ("letters", .ref ls), ("steps", .ref D)])) := fun b hb o e => upd_oth hb (s6 _ _ e)
    have hx8 : upd F x (.ins (gC mg) dx [("start", .str s), ("states", .ref ss), ("letters", .ref ls), ("steps", .ref D)]) x = some (.ins (gC mg) dx [("start", .str s), ("states", .ref ss), ("letters", .ref ls), ("steps", .ref D)]) := upd_same
    have hD8 : upd F x (.ins (gC mg) dx [("start", .str s), ("states", .ref ss), ("letters", .ref ls), ("steps", .ref D)]) D = some (.dT kvs) := upd_oth dDx hD6
    have ht8 := b7 t ntx _ ht6
    have hs8 := b7 ss nsx _ hs6
    have hl8 := b7 ls nlx _ hl6
    have b8 : But x H (upd F x (.ins (gC mg) dx [("start", .str s), ("states", .ref ss), ("letters", .ref ls), ("steps", .ref D)])) := fun b hb o e => b7 b hb o (bx b hb o e)
    generalize upd F x (.ins (gC mg) dx [("start", .str s), ("states", .ref ss), ("letters", .ref ls), ("steps", .ref D)]) = H8 at hx8 hD8 ht8 hs8 hl8 b8
    -- the tails
    refine ⟨t, _, ht8, trivial, fun ot => ?_⟩
    have hlt : upd H8 t (.frz ot (.dK (tl.map tlKv))) t = some (.frz ot (.dK (tl.map tlKv))) := upd_same
    generalize eGL : upd H8 t (.frz ot (.dK (tl.map tlKv))) = GL at hlt
    refine ⟨_, rfl, t, ot, rfl, .inl ⟨_, hlt, fun D2 hD2 => ?_⟩⟩
    refine dcK_it (walk_keys (d := t) (o := ot) (kvs := tl.map tlKv)) (fun i H' => Same GL H' ∧ H' D2 = some (.dK ((tl.map tlKv).take i))) ⟨Same.new hD2, upd_same⟩ (fun i H' _ p => p.1 _ _ hlt) ?_ ?_
    · rintro i x0 A1 A2 hi ⟨sm, hDl⟩ ⟨rfl, k0, v0, e0, rfl⟩
      refine ⟨rfl, yes_run ?_⟩
      refine ⟨_, rfl, _, rfl, _, rfl, t, v0, rfl, .inl ⟨_, k0, .inr ⟨ot, sm _ _ hlt⟩, rfl, (valV_at (tl_nd ndt) e0).symm⟩, ?_⟩
      refine ⟨_, k0, rfl, hDl, ?_, ?_, ?_⟩
      · rw [List.length_take, List.length_map]
        have := ok.ltl
        exact Nat.lt_of_le_of_lt (show _ ≤ 1000 by omega) (by decide)
      · intro b o eb
        exact upd_oth (fun z => by rw [z, hD2] at eb; cases eb) (sm _ _ eb)
      · rw [put_takeK (tl_nd ndt) e0, upd_same]
    rintro A1 ⟨sm2, hDl2⟩
    rw [List.take_of_length_le (Nat.le_refl _)] at hDl2
    have dD2 : D2 ≠ t := fun z => by rw [z, hlt] at hD2; cases hD2
    refine ⟨sm2 _ _ hlt, ?_⟩
    have s8 : Same H8 (upd A1 t (.dK (tl.map tlKv))) := unlock_same (u' := .frz ot (.dK (tl.map tlKv))) ht8 (by rw [eGL]; exact sm2)
    have hD9 : upd A1 t (.dK (tl.map tlKv)) D2 = some (.dK (tl.map tlKv)) := upd_oth dD2 hDl2
    generalize upd A1 t (.dK (tl.map tlKv)) = G at s8 hD9
    have hx9 := s8 _ _ hx8
    refine ⟨_, rfl, x, _, dx, _, rfl, hx9, TC.cls, TC.nA _ (by decide), by show 4 < 1000; decide, ?_⟩
    have dD2x : D2 ≠ x := fun z => by rw [z, hx9] at hD9; cases hD9
    have b9 : But x H (upd G x (.ins (gC mg) dx (flds s ss ls D D2))) := fun b hb o e => upd_oth hb (s8 _ _ (b8 b hb o e))
    refine k _ b9 ⟨dx, ss, ls, D, D2, ys, zs, upd_same, upd_oth nsx (s8 _ _ hs8), hperm, hsort, upd_oth nlx (s8 _ _ hl8), hperm2, hsort2, ⟨kvs, upd_oth dDx (s8 _ _ hD8), ?_, nd⟩, upd_oth dD2x hD9, ndt⟩
    refine ⟨hst.1, fun i e he => ?_⟩
    obtain ⟨q, a1, a2⟩ := hst.2 i e he
    refine ⟨q, a1, ?_⟩
    rcases a2 with (a2 | ⟨o', a2⟩) | a2
    · exact .inl (.inl (b9 _ (no (s05 _ _ a2) (fun _ _ _ z => by cases z)) _ a2))
    · exact .inl (.inr ⟨o', b9 _ (no (s05 _ _ a2) (fun _ _ _ z => by cases z)) _ a2⟩)
    · exact .inr a2
end
end KC

namespace KC
open PySem L2 PyProof.Rows
/-- the step of a state and a letter -/
def stepOf (st : List StE) (s l : Str) : Option (Str × Str) := (st.find? fun e => decide (e.1 = (s, l))).map (·.2)
theorem stK_inj {e : StE} {s l : Str} (h : stK e = [.inr s, .inr l]) : e.1 = (s, l) := by
  have h1 := List.cons.inj h
  have h2 := List.cons.inj h1.2
  exact Prod.ext (Sum.inr.inj h1.1) (Sum.inr.inj h2.1)
theorem valV_none {κ : Type} [DecidableEq κ] {kvs : List (κ × V)} {k : κ} (h : k ∉ kvs.map (·.1)) : valV kvs k = none := by
  unfold valV
  rw [List.find?_eq_none.mpr]
  · rfl
  · intro p hp z
    exact h (List.mem_map.mpr ⟨p, hp, of_decide_eq_true z⟩)
theorem StK.get {K : PySem.W.Frag} {H : Hp} {kvs : List (List Key × V)} {st : List StE} (h : StK K H kvs st) (nd : (kvs.map (·.1)).Nodup) (s l : Str) :
    (stepOf st s l = none ∧ valV kvs [.inr s, .inr l] = none) ∨ ∃ a to q, stepOf st s l = some (a, to) ∧ valV kvs [.inr s, .inr l] = some (.ref q) ∧ SqT K H q [.str a, .str to] := by
  unfold stepOf
  cases e : st.find? fun e => decide (e.1 = (s, l)) with
  | none =>
    refine .inl ⟨rfl, valV_none fun hm => ?_⟩
    rw [h.1] at hm
    obtain ⟨x, hx, ek⟩ := List.mem_map.mp hm
    have := List.find?_eq_none.mp e x hx
    exact this (decide_eq_true (stK_inj ek))
  | some x =>
    have hx := List.mem_of_find?_eq_some e
    have ex : x.1 = (s, l) := by
      have := List.find?_some e
      simpa using this
    obtain ⟨i, hi, e1⟩ := List.mem_iff_getElem.mp hx
    obtain ⟨q, a1, a2⟩ := h.2 i x (by rw [List.getElem?_eq_getElem hi, e1])
    have := valV_at nd a1
    have ek : stK x = [.inr s, .inr l] := by
      unfold stK
      rw [ex]
    rw [ek] at this
    exact .inr ⟨x.2.1, x.2.2, q, rfl, this, a2⟩
/-- what is written, the state come to, how many letters have steps -/
def fol (st : List StE) : Str → Str → List Nat → Nat → Str × Str × Nat
  | w, s, [], n => (w, s, n)
  | w, s, c :: cs, n => match stepOf st s ⟨#[c]⟩ with
    | none => (w, s, n)
    | some (a, to) => fol st (w ++ a) to cs (n + 1)
theorem stepOf_ok {st : List StE} {s l a to : Str} (h : stepOf st s l = some (a, to)) (ok : ∀ e ∈ st, okStep e) : isAns a = true ∧ isName to = true := by
  unfold stepOf at h
  cases e : st.find? fun e => decide (e.1 = (s, l)) with
  | none => rw [e] at h; cases h
  | some x =>
    rw [e] at h
    have hx := List.mem_of_find?_eq_some e
    have : x.2 = (a, to) := Option.some.inj h
    obtain ⟨_, _, o3, o4⟩ := ok x hx
    rw [this] at o3 o4
    exact ⟨o3, o4⟩
section
variable {P : Program} {w : World} {K : PySem.W.Frag} {mg : Str → Option Value} {base : Heap}
def spFollowed (K : PySem.W.Frag) (C : Addr) : Sp := fun vs H Q _ => ∃ (x : Addr) (s0 z s : Str) (st : List StE) (tl : List (Str × Str)), vs = [.ref x, .str s, .str z] ∧ CvAt K C H x s0 st tl ∧ OkParts s0 st tl ∧
  z.cps.size ≤ 1000 ∧ ∀ q H', H q = none → Same H H' → H' q = some (.tup [.str (fol st "" s z.cps.toList 0).1, .str (fol st "" s z.cps.toList 0).2.1, .int (fol st "" s z.cps.toList 0).2.2]) → Q (.ref q) H'
theorem kp_followed (TC : TxC K mg) : Kf P w K mg base 1 "followed" ["converter", "start", "text"] (spFollowed K (gC mg)) := by
  have T := TC.T
  refine T.d_followed.okF sc_followed (fun vs H Q E h => ?_) (fun f cdv A outer s H vs Q E hA hr h => ?_)
  · obtain ⟨x, s0, z, s, st, tl, rfl, _⟩ := h
    rfl
  · obtain ⟨x, s0, z, s, st, tl, rfl, ⟨dx, ss, ls, d, t, ys, zs, hx, _, _, _, _, _, _, ⟨kvs, hd, hst, nd⟩, ht, _⟩, ok, hz, k⟩ := h
    refine ⟨_, (pss_cons (ps_par (i := 3) (j := 4) (by rfl) sc_followed.nd rfl rfl (by decide) rfl rfl (pa_cons (pe_str) (pa_cons (pv 1) pa_nil)) (by rfl))
 (pss_cons (ps_for PassesOwn.never rfl (pi_enumS (by rfl) (T.nb _ (by decide)) (pa_cons (pv 2) pa_nil)) (pg_tup rfl (pgs_cons (pg_name (i := 5) sc_followed.nd rfl (Or.inl rfl)) (pgs_cons (pg_name (i := 6) sc_followed.nd rfl (Or.inl rfl)) pgs_nil)))
 (pss_cons (ps_if (pt_cmp (pc_dnotin (hu_of hr) (pe_tup (pa_cons (pv 4) (pa_cons (pv 6) pa_nil))) (pe_fld (pv 0) rfl)))
 (pss_one (ps_ret (pe_tup (pa_cons (pv 3) (pa_cons (pv 4) (pa_cons (pv 5) pa_nil)))))) pss_nil)
 (pss_cons (ps_asg (pe_dget (hu_of hr) (pe_fld (pv 0) rfl) (pe_tup (pa_cons (pv 4) (pa_cons (pv 6) pa_nil))) (fun _ _ => rfl)) (pg_tup rfl (pgs_cons (pg_name (i := 7) sc_followed.nd rfl (Or.inl rfl)) (pgs_cons (pg_name (i := 8) sc_followed.nd rfl (Or.inl rfl)) pgs_nil))))
 (pss_one (ps_par (i := 3) (j := 4) (by rfl) sc_followed.nd rfl rfl (by decide) rfl rfl (pa_cons (pe_op op_add_str (pv 3) (pv 7)) (pa_cons (pv 8) pa_nil)) (by rfl))))))
 (pss_one (ps_ret (pe_tup (pa_cons (pv 3) (pa_cons (pv 4) (pa_cons (pe_callB call_len (by rfl) (T.nb _ (by decide)) PySem.boot_len (pa_cons (pv 2) pa_nil)) pa_nil)))))))), ?_⟩
    refine ⟨_, rfl, _, _, rfl, ?_⟩
    refine ⟨_, rfl, z, rfl, ?_⟩
    have hz0 : z.cps.size = z.cps.toList.length := by rw [Array.length_toList]
    refine for_it (walk_enumS (z := z)) (fun i σ H' => ∃ (v5 v6 v7 v8 : Option V) (wr s' : Str), σ = [some (.ref x), some (.str s), some (.str z), some (.str wr), some (.str s'), v5, v6, v7, v8] ∧ Same H H' ∧
      wr.length ≤ 4 * i ∧ fol st "" s z.cps.toList 0 = fol st wr s' (z.cps.toList.drop i) i) ⟨_, _, _, _, "", s, rfl, fun _ _ h => h, by decide, by rw [List.drop_zero]⟩ (fun _ _ _ _ _ => True.intro) ?_ ?_
    · rintro i xv σ H1 H2 hi ⟨v5, v6, v7, v8, wr, s', rfl, sm, lw, ef⟩ ⟨T1, x1, y1, rfl, hT, rfl, h1, h2⟩
      obtain rfl : V.int (i : Nat) = x1 := Option.some.inj h1
      obtain ⟨c, hc⟩ : ∃ c, z.cps[i]? = some c := ⟨_, Array.getElem?_eq_getElem hi⟩
      have h2' : (z.cps[i]?).map (fun c => V.str ⟨#[c]⟩) = some y1 := h2
      rw [hc] at h2'
      obtain rfl : V.str ⟨#[c]⟩ = y1 := Option.some.inj h2'
      have hdrop : z.cps.toList.drop i = c :: z.cps.toList.drop (i + 1) := by
        have hil : i < z.cps.toList.length := by omega
        rw [List.drop_eq_getElem_cons hil]
        congr 1
        have := hc
        rw [Array.getElem?_eq_getElem hi] at this
        simpa using this
      rw [hdrop] at ef
      have sm2 : Same H (upd H1 T1 (.tup [.int (i : Nat), .str ⟨#[c]⟩])) := sm.trans (Same.new hT)
      refine ⟨T1, _, rfl, SqT.of upd_same, rfl, _, _, rfl, _, _, rfl, rfl, ?_⟩
      generalize upd H1 T1 (.tup [.int (i : Nat), .str ⟨#[c]⟩]) = G at sm2
      -- the test
      refine ⟨_, rfl, _, rfl, (by show 2 ≤ sizeLine; decide), fun kt hkt => ?_⟩
      have sm3 : Same H (upd G kt (.tup [.str s', .str ⟨#[c]⟩])) := sm2.trans (Same.new hkt)
      have hk : upd G kt (.tup [.str s', .str ⟨#[c]⟩]) kt = some (.tup [.str s', .str ⟨#[c]⟩]) := upd_same
      refine ⟨_, rfl, x, _, dx, _, _, rfl, sm3 _ _ hx, TC.cls, TC.nA _ (by decide), rfl, ?_⟩
      refine ⟨d, _, rfl, .inr ⟨kvs, [.inr s', .inr ⟨#[c]⟩], kt, .inl (sm3 _ _ hd), rfl, hk, rfl⟩, ?_⟩
      rcases (hst.same sm3).get nd s' ⟨#[c]⟩ with ⟨e1, e2⟩ | ⟨a, to, q, e1, e2, e3⟩
      · have ev : fol st wr s' (c :: z.cps.toList.drop (i + 1)) i = (wr, s', i) := by
          unfold fol
          rw [e1]
        rw [ev] at ef
        rw [ef] at k
        rw [e2]
        refine ⟨_, rfl, iteT ?_⟩
        refine ⟨_, rfl, _, rfl, _, rfl, (by show 3 ≤ sizeLine; decide), fun q hq => ?_⟩
        exact k q _ (sm3.free hq) (sm3.trans (Same.new hq)) upd_same
      · have ev : fol st wr s' (c :: z.cps.toList.drop (i + 1)) i = fol st (wr ++ a) to (z.cps.toList.drop (i + 1)) (i + 1) := by
          conv => lhs; unfold fol
          rw [e1]
        rw [ev] at ef
        rw [e2]
        refine ⟨_, rfl, iteF ?_⟩
        have la : a.length ≤ 4 := by
          have := (stepOf_ok e1 ok.ost).1
          unfold isAns okL at this
          simp only [Bool.and_eq_true, decide_eq_true_eq] at this
          omega
        generalize upd G kt (.tup [.str s', .str ⟨#[c]⟩]) = G2 at sm3 e3
        refine ⟨_, rfl, x, _, dx, _, _, rfl, sm3 _ _ hx, TC.cls, TC.nA _ (by decide), rfl, ?_⟩
        refine ⟨_, rfl, _, rfl, (by show 2 ≤ sizeLine; decide), fun kt2 hkt2 => ?_⟩
        have sm4 : Same H (upd G2 kt2 (.tup [.str s', .str ⟨#[c]⟩])) := sm3.trans (Same.new hkt2)
        refine ⟨d, .ref q, rfl, .inr ⟨kvs, [.inr s', .inr ⟨#[c]⟩], kt2, .inl (sm4 _ _ hd), rfl, upd_same, e2.symm⟩, ?_⟩
        refine ⟨q, _, rfl, e3.ext (Same.new hkt2), rfl, _, _, rfl, _, _, rfl, rfl, ?_⟩
        refine ⟨_, rfl, _, rfl, _, _, rfl, rfl, ?_, _, rfl, _, _, rfl, ?_⟩
        · have : wr.length + a.length ≤ 5000 := by omega
          exact Nat.le_trans this (by decide)
        refine ⟨_, _, _, _, wr ++ a, to, rfl, sm4, ?_, ef⟩
        rw [strLen_append]
        omega
    · rintro σ H' ⟨v5, v6, v7, v8, wr, s', rfl, sm, lw, ef⟩
      have hd0 : z.cps.toList.drop z.cps.size = [] := by rw [hz0, List.drop_length]
      rw [hd0] at ef
      have ev : fol st wr s' [] z.cps.size = (wr, s', z.cps.size) := by unfold fol; rfl
      rw [ev] at ef
      rw [ef] at k
      refine ⟨_, rfl, _, rfl, _, rfl, .str z, _, rfl, ⟨?_, rfl⟩, (by show 3 ≤ sizeLine; decide), fun q hq => ?_⟩
      · exact Nat.le_trans (show z.length ≤ 1000 from hz) (by decide)
      · exact k q _ (sm.free hq) (sm.trans (Same.new hq)) upd_same
end
end KC

namespace KC
open PySem L2 PyProof.Rows
theorem okL_le {lo hi : Nat} {s : Str} (h : okL lo hi s = true) : s.length ≤ hi := by
  unfold okL at h
  simp only [Bool.and_eq_true, decide_eq_true_eq] at h
  exact h.2.1
/-- the tail of a state -/
def tailOf (tl : List (Str × Str)) (s : Str) : Option Str := (tl.find? fun e => decide (e.1 = s)).map (·.2)
theorem valV_tl (tl : List (Str × Str)) (s : Str) : valV (tl.map tlKv) (.inr s) = (tailOf tl s).map V.str := by
  unfold valV tailOf
  induction tl with
  | nil => rfl
  | cons e tl ih =>
    rw [List.map_cons, List.find?_cons, List.find?_cons]
    by_cases h : e.1 = s
    · have h1 : decide ((tlKv e).1 = (Sum.inr s : Key)) = true := decide_eq_true (by rw [← h]; rfl)
      rw [h1, decide_eq_true h]
      rfl
    · have h1 : decide ((tlKv e).1 = (Sum.inr s : Key)) = false := decide_eq_false fun z => h (Sum.inr.inj z)
      rw [h1, decide_eq_false h]
      exact ih
structure TxM (K : PySem.W.Frag) (mg : Str → Option Value) : Prop where
  C : TxC K mg
  iC : PySem.W.findIn K (.ref (gC mg)) "__class__" = some (some (.builtin "object.__class__"))
  iG : PySem.W.specialIn K (.builtin "object.__class__") "__get__" = some (some (.builtin "getset_descriptor.__get__"))
  iT : PySem.W.takesIn K (.builtin "object.__class__") = some true
  iM : PySem.W.mroIn K (gC mg) (.type "object") = some true
  kC : PySem.W.kitOne K (.ref (gC mg)) (.ref (gC mg)) = some true
  kN : ∀ t ∈ ["NoneType", "int", "str", "dict", "list", "bool"], PySem.W.kitOne K (.type t) (.ref (gC mg)) = some false
theorem tailOf_ok {tl : List (Str × Str)} {s t : Str} (h : tailOf tl s = some t) (ok : ∀ e ∈ tl, okTail e) : isAns t = true := by
  unfold tailOf at h
  cases e : tl.find? fun e => decide (e.1 = s) with
  | none =>
    rw [e] at h
    cases h
  | some x =>
    rw [e] at h
    have hx := List.mem_of_find?_eq_some e
    have ex : x.2 = t := Option.some.inj h
    rw [← ex]
    exact (ok x hx).2
/-- a way through the steps: what is written and where it leads, letter by letter -/
inductive Wk (st : List StE) : Str → List Nat → List (Str × Str) → Str → Prop
  | nil (s : Str) : Wk st s [] [] s
  | cons {s a to e : Str} {c : Nat} {cs : List Nat} {ws : List (Str × Str)} : stepOf st s ⟨#[c]⟩ = some (a, to) → Wk st to cs ws e → Wk st s (c :: cs) ((a, to) :: ws) e
def lenW : List (Str × Str) → Nat
  | [] => 0
  | p :: ws => p.1.length + lenW ws
theorem lenW_cons (p : Str × Str) (ws : List (Str × Str)) : lenW (p :: ws) = p.1.length + lenW ws := rfl
def hts : Int → List (Str × Str) → List Int
  | h, [] => [h]
  | h, p :: ws => h :: hts (h + (p.1.length : Nat) - 1) ws
theorem Wk.len {st : List StE} {s e : Str} {cs : List Nat} {ws : List (Str × Str)} (h : Wk st s cs ws e) : ws.length = cs.length := by
  induction h with
  | nil s => rfl
  | cons _ _ ih => rw [List.length_cons, List.length_cons, ih]
theorem Wk.fol {st : List StE} {s e : Str} {cs : List Nat} {ws : List (Str × Str)} (h : Wk st s cs ws e) : ∀ (w : Str) (n : Nat), ∃ w' : Str, fol st w s cs n = (w', e, n + cs.length) ∧ w'.length = w.length + lenW ws := by
  induction h with
  | nil s =>
    intro w n
    exact ⟨w, by unfold KC.fol; rfl, rfl⟩
  | cons h1 _ ih =>
    rename_i s a to e c cs ws h2
    intro w n
    obtain ⟨w', e1, e2⟩ := ih (w ++ a) (n + 1)
    refine ⟨w', ?_, ?_⟩
    · conv => lhs; unfold KC.fol
      rw [h1]
      dsimp only
      rw [e1, List.length_cons]
      congr 2
      omega
    · rw [e2, strLen_append, show lenW ((a, to) :: ws) = a.length + lenW ws from rfl]
      omega
theorem Wk.le {st : List StE} (ok : ∀ e ∈ st, okStep e) {s e : Str} {cs : List Nat} {ws : List (Str × Str)} (h : Wk st s cs ws e) : (∀ p ∈ ws, p.1.length ≤ 4) ∧ lenW ws ≤ 4 * ws.length := by
  induction h with
  | nil s => exact ⟨fun p hp => (by cases hp), Nat.le_refl _⟩
  | cons h1 _ ih =>
    have la := okL_le (stepOf_ok h1 ok).1
    refine ⟨fun p hp => ?_, ?_⟩
    · rcases List.mem_cons.mp hp with rfl | hp
      · exact la
      · exact ih.1 p hp
    · rw [lenW_cons, List.length_cons]
      have := ih.2
      dsimp only
      omega
theorem hts_len : ∀ (h : Int) (ws : List (Str × Str)), (hts h ws).length = ws.length + 1
  | _, [] => rfl
  | h, p :: ws => by
    unfold hts
    rw [List.length_cons, hts_len, List.length_cons]
theorem hts_app : ∀ (h : Int) (ws : List (Str × Str)) (a to : Str), hts h (ws ++ [(a, to)]) = hts h ws ++ [h + (lenW ws : Nat) - (ws.length : Nat) + (a.length : Nat) - 1]
  | h, [], a, to => by
    show [h, h + (a.length : Nat) - 1] = [h] ++ [h + ((0 : Nat) : Int) - ((0 : Nat) : Int) + (a.length : Nat) - 1]
    simp
  | h, p :: ws, a, to => by
    rw [List.cons_append]
    unfold hts
    rw [hts_app, List.cons_append]
    congr 2
    rw [List.length_cons]
    show [h + (p.1.length : Nat) - 1 + (lenW ws : Nat) - (ws.length : Nat) + (a.length : Nat) - 1] = [h + ((p.1.length + lenW ws : Nat) : Int) - ((ws.length + 1 : Nat) : Int) + (a.length : Nat) - 1]
    congr 1
    push_cast
    omega
theorem hts_last : ∀ (h : Int) (ws : List (Str × Str)), (hts h ws).getLast? = some (h + (lenW ws : Nat) - (ws.length : Nat))
  | h, [] => by
    unfold hts lenW
    simp
  | h, p :: ws => by
    have e := hts_last (h + (p.1.length : Nat) - 1) ws
    unfold hts
    have : hts (h + (p.1.length : Nat) - 1) ws ≠ [] := by
      intro z
      have := hts_len (h + (p.1.length : Nat) - 1) ws
      rw [z] at this
      simp at this
    rw [List.getLast?_cons_of_ne_nil this] <;> first | skip
    rw [e]
    congr 1
    rw [List.length_cons, lenW_cons]
    push_cast
    omega
end KC

namespace KC
open PySem L2 PyProof.Rows
abbrev s_check_converter : Stmt := top 54
abbrev n_check_converter : List Str := ["converter"]
theorem sc_check_converter : FnScope n_check_converter ["converter"] (defScope s_check_converter) :=
  ⟨rfl, rfl, rfl, by decide +kernel, rfl, by decide +kernel, by decide +kernel⟩

abbrev s_steps_along : Stmt := top 55
abbrev n_steps_along : List Str := ["converter", "text", "state", "found", "at", "letter"]
theorem sc_steps_along : FnScope n_steps_along ["converter", "text"] (defScope s_steps_along) :=
  ⟨rfl, rfl, rfl, by decide +kernel, rfl, by decide +kernel, by decide +kernel⟩

abbrev s_run : Stmt := top 57
abbrev n_run : List Str := ["converter", "text", "steps", "answer", "state"]
theorem sc_run : FnScope n_run ["converter", "text"] (defScope s_run) :=
  ⟨rfl, rfl, rfl, by decide +kernel, rfl, by decide +kernel, by decide +kernel⟩

abbrev s_climbs : Stmt := top 58
abbrev n_climbs : List Str := ["converter", "text", "heights", "answer", "_"]
theorem sc_climbs : FnScope n_climbs ["converter", "text"] (defScope s_climbs) :=
  ⟨rfl, rfl, rfl, by decide +kernel, rfl, by decide +kernel, by decide +kernel⟩

theorem Wk.snoc {st : List StE} {s e a to : Str} {c : Nat} {cs : List Nat} {ws : List (Str × Str)} (h : Wk st s cs ws e) (k : stepOf st e ⟨#[c]⟩ = some (a, to)) : Wk st s (cs ++ [c]) (ws ++ [(a, to)]) to := by
  induction h with
  | nil s => exact .cons k (.nil _)
  | cons h1 _ ih => exact .cons h1 (ih k)
structure TxA (K : PySem.W.Frag) (mg : Str → Option Value) : Prop where
  M : TxM K mg
  check : OwnD K mg "check_converter" s_check_converter ["converter"]
  along : OwnD K mg "steps_along" s_steps_along ["converter", "text"]
  run : OwnD K mg "run" s_run ["converter", "text"]
  climbs : OwnK K mg "climbs" s_climbs ["converter", "text"] ["text", "converter"]
/-- an error that is told: its class by name, its fields -/
def Told (mg : Str → Option Value) (H : Hp) (E : XK) (x : Str) (fs : List (Str × V)) : Prop :=
  ∀ d H', H d = none → Same H H' → H' d = some (.xd fs) → E (.ref (adr mg x)) (some d) H'
theorem Told.same {mg : Str → Option Value} {H H' : Hp} {E : XK} {x : Str} {fs : List (Str × V)} (h : Told mg H E x fs) (s : Same H H') : Told mg H' E x fs :=
  fun d H2 hd s2 e => h d H2 (s.free hd) (s.trans s2) e
structure ErrR (P : Program) (w : World) (K : PySem.W.Frag) (mg : Str → Option Value) (base : Heap) : Prop where
  conv : MkR P w K mg base "BadConverter" ["part"]
  word : MkR P w K mg base "BadWord" ["value"]
  step : MkR P w K mg base "NoStep" ["at", "state"]
/-- no text -/
def BadW (K : PySem.W.Frag) (H : Hp) (v : V) : Prop := (∃ z : Str, v = .str z ∧ z.length ≤ 10000 ∧ isTxt z = false) ∨
  ∃ t, (∀ H', Same H H' → TyOf K H' v t) ∧ PySem.W.kitOne K t (.type "str") = some false
/-- no converter -/
def BadC (K : PySem.W.Frag) (C : Addr) (H : Hp) (v : V) : Prop := ∃ t, (∀ H', Same H H' → TyX K H' v t) ∧ PySem.W.kitOne K t (.ref C) = some false
theorem BadW.same {K : PySem.W.Frag} {H H' : Hp} {v : V} (h : BadW K H v) (s : Same H H') : BadW K H' v := by
  rcases h with h | ⟨t, h, e⟩
  · exact .inl h
  · exact .inr ⟨t, fun H2 s2 => h H2 (s.trans s2), e⟩
theorem BadC.same {K : PySem.W.Frag} {C : Addr} {H H' : Hp} {v : V} (h : BadC K C H v) (s : Same H H') : BadC K C H' v := by
  obtain ⟨t, h, e⟩ := h
  exact ⟨t, fun H2 s2 => h H2 (s.trans s2), e⟩
/-- what is asked of a converter and a text -/
def PreA (K : PySem.W.Frag) (mg : Str → Option Value) (v wv : V) (H : Hp) (E : XK) (OK : Str → List (Str × Str) → Prop) : Prop :=
  (BadC K (gC mg) H v ∧ Told mg H E "BadConverter" [("part", .str "converter")]) ∨
  (∃ (x : Addr) (s : Str) (st : List StE) (tl : List (Str × Str)), v = .ref x ∧ CvAt K (gC mg) H x s st tl ∧ OkParts s st tl ∧
    ((BadW K H wv ∧ Told mg H E "BadWord" [("value", wv)]) ∨
     (∃ z : Str, wv = .str z ∧ isTxt z = true ∧
       (∀ (i c : Nat) (w1 : List (Str × Str)) (e : Str), z.cps.toList[i]? = some c → Wk st s (z.cps.toList.take i) w1 e → stepOf st e ⟨#[c]⟩ = none → Told mg H E "NoStep" [("state", .str e), ("at", .int (i : Nat))]) ∧
       ∀ (ws : List (Str × Str)) (e : Str), (∀ p ∈ ws, p.1.length ≤ 4) → Wk st s z.cps.toList ws e → OK s ws)))
theorem PreA.same {K : PySem.W.Frag} {mg : Str → Option Value} {v wv : V} {H H' : Hp} {E : XK} {OK OK' : Str → List (Str × Str) → Prop} (h : PreA K mg v wv H E OK) (sm : Same H H') (m : ∀ s ws, ws.length ≤ 400 → (∀ p ∈ ws, p.1.length ≤ 4) → OK s ws → OK' s ws) : PreA K mg v wv H' E OK' := by
  rcases h with ⟨h, t⟩ | ⟨x, s, st, tl, e, cv, ok, h⟩
  · exact .inl ⟨h.same sm, t.same sm⟩
  · refine .inr ⟨x, s, st, tl, e, cv.same sm, ok, ?_⟩
    rcases h with ⟨h, t⟩ | ⟨z, ez, hT, k1, k2⟩
    · exact .inl ⟨h.same sm, t.same sm⟩
    · refine .inr ⟨z, ez, hT, fun i c w1 e a b d => (k1 i c w1 e a b d).same sm, fun ws e p4 wk => m _ _ ?_ p4 (k2 ws e p4 wk)⟩
      rw [wk.len, Array.length_toList]
      exact okL_le hT
section
variable {P : Program} {w : World} {K : PySem.W.Frag} {mg : Str → Option Value} {base : Heap}
def spCheck (K : PySem.W.Frag) (mg : Str → Option Value) : Sp := fun vs H Q E => ∃ v, vs = [v] ∧
  ((∃ (x : Addr) (s : Str) (st : List StE) (tl : List (Str × Str)), v = .ref x ∧ CvAt K (gC mg) H x s st tl ∧ Q .non H) ∨
   (BadC K (gC mg) H v ∧ Told mg H E "BadConverter" [("part", .str "converter")]))
theorem kp_check (TA : TxA K mg) (RZ : ErrR P w K mg base) : KfX P w K mg base 3 "check_converter" ["converter"] (spCheck K mg) := by
  have TM := TA.M
  have TC := TM.C
  have T := TC.T
  refine TA.check.okX sc_check_converter (fun vs H Q E h => ?_) (fun f cdv A outer s H vs Q E hA hr h => ?_)
  · obtain ⟨v, rfl, _⟩ := h
    rfl
  · obtain ⟨v, rfl, h⟩ := h
    refine ⟨_, (pss_one (ps_if (pt_not (pt_val (pe_callB call_isi (by rfl) (T.nb _ (by decide)) (by decide +kernel) (pa_cons (pv 0) (pa_cons (pe_glob (v := .ref (gC mg)) rfl TC.mgC rfl) pa_nil)))))
 (pss_one (ps_rz rfl (takes_of rfl rfl rfl rfl) RZ.conv hr (by rfl) (pa_cons (pe_str) pa_nil))) pss_nil)), ?_⟩
    rcases h with ⟨x, s0, st, tl, rfl, cv, k⟩ | ⟨⟨t, ty, e⟩, k⟩
    · obtain ⟨dx, ss, ls, d, t, ys, zs, c1, _⟩ := id cv
      exact ⟨_, rfl, .ref x, _, _, _, true, rfl, .own _, .base (.ins c1 TC.cls TM.iC TM.iG TM.iT TM.iM), TM.kC, _, rfl, iteF k⟩
    · refine ⟨_, rfl, v, _, _, _, false, rfl, .own _, ty _ (fun _ _ h => h), e, _, rfl, iteT ?_⟩
      exact ⟨rfl, (by show 1 ≤ 900; decide), fun d H' hd sm e => k d H' hd sm e⟩
/-- the steps that are told -/
def StsAt (K : PySem.W.Frag) (H : Hp) (rs : List Addr) (ws : List (Str × Str)) : Prop := rs.length = ws.length ∧ ∀ (i : Nat) (r : Addr) (p : Str × Str), rs[i]? = some r → ws[i]? = some p → SqT K H r [.str p.1, .str p.2]
theorem StsAt.same {H H' : Hp} {rs : List Addr} {ws : List (Str × Str)} (h : StsAt K H rs ws) (s : Same H H') : StsAt K H' rs ws := ⟨h.1, fun i r p a b => (h.2 i r p a b).ext s⟩
theorem sqT_updL {H : Hp} {a L : Addr} {xs : List V} {ys : List V} {u : HO} (h : SqT K H a xs) (g : H L = some (.lst ys)) : SqT K (upd H L u) a xs := by
  rcases h with (h | ⟨o, h⟩) | h
  · exact .inl (.inl (upd_oth (fun z => by rw [z, g] at h; cases h) h))
  · exact .inl (.inr ⟨o, upd_oth (fun z => by rw [z, g] at h; cases h) h⟩)
  · exact .inr h
theorem StsAt.updL {H : Hp} {L : Addr} {ys : List V} {u : HO} {rs : List Addr} {ws : List (Str × Str)} (h : StsAt K H rs ws) (g : H L = some (.lst ys)) : StsAt K (upd H L u) rs ws :=
  ⟨h.1, fun i r p a b => sqT_updL (h.2 i r p a b) g⟩
theorem StsAt.snoc {H : Hp} {rs : List Addr} {ws : List (Str × Str)} {r : Addr} {p : Str × Str} (h : StsAt K H rs ws) (hr : SqT K H r [.str p.1, .str p.2]) : StsAt K H (rs ++ [r]) (ws ++ [p]) := by
  refine ⟨by rw [List.length_append, List.length_append, h.1]; rfl, fun i q y a b => ?_⟩
  rcases Nat.lt_or_ge i rs.length with lt | ge
  · rw [List.getElem?_append_left lt] at a
    rw [List.getElem?_append_left (by rw [← h.1]; exact lt)] at b
    exact h.2 i q y a b
  · rw [List.getElem?_append_right ge] at a
    rw [List.getElem?_append_right (by rw [← h.1]; exact ge), ← h.1] at b
    cases hi : i - rs.length with
    | zero =>
      rw [hi] at a b
      obtain rfl := Option.some.inj a
      obtain rfl := Option.some.inj b
      exact hr
    | succ n =>
      rw [hi] at a
      simp at a
def spAlong (K : PySem.W.Frag) (mg : Str → Option Value) : Sp := fun vs H Q E => ∃ v wv, vs = [v, wv] ∧ PreA K mg v wv H E fun _ ws =>
  ∀ (L : Addr) (rs : List Addr) H', Same H H' → H' L = some (.lst (rs.map V.ref)) → StsAt K H' rs ws → Q (.ref L) H'
theorem kp_along (TA : TxA K mg) (RZ : ErrR P w K mg base) : KfX P w K mg base 4 "steps_along" ["converter", "text"] (spAlong K mg) := by
  have TM := TA.M
  have TC := TM.C
  have T := TC.T
  refine TA.along.okX sc_steps_along (fun vs H Q E h => ?_) (fun f cdv A outer s H vs Q E hA hr h => ?_)
  · obtain ⟨v, wv, rfl, _⟩ := h
    rfl
  · obtain ⟨v, wv, rfl, h⟩ := h
    refine ⟨_, (pss_cons (ps_expr (pe_kfX (kp_check TA RZ) hr (passes_call (takes_of rfl rfl rfl rfl) (fun _ _ _ _ h => h)) (by rfl) (pa_cons (pv 0) pa_nil)))
 (pss_cons (ps_if (pt_not (pt_val (pe_kf (kp_text T) hA hr (by rfl) (pa_cons (pv 1) pa_nil))))
 (pss_one (ps_rz rfl (takes_of rfl rfl rfl rfl) RZ.word hr (by rfl) (pa_cons (pv 1) pa_nil))) pss_nil)
 (pss_cons (ps_set (i := 2) sc_steps_along.nd rfl (Or.inl rfl) (pe_fld (pv 0) rfl))
 (pss_cons (ps_set (i := 3) sc_steps_along.nd rfl (Or.inl rfl) (pe_lst pa_nil))
 (pss_cons (ps_for (passes_of rfl) rfl (pi_enumS (by rfl) (T.nb _ (by decide)) (pa_cons (pv 1) pa_nil)) (pg_tup rfl (pgs_cons (pg_name (i := 4) sc_steps_along.nd rfl (Or.inl rfl)) (pgs_cons (pg_name (i := 5) sc_steps_along.nd rfl (Or.inl rfl)) pgs_nil)))
 (pss_cons (ps_if (pt_cmp (pc_dnotin (hu_of hr) (pe_tup (pa_cons (pv 2) (pa_cons (pv 5) pa_nil))) (pe_fld (pv 0) rfl)))
 (pss_one (ps_rz rfl (takes_of rfl rfl rfl rfl) RZ.step hr (by rfl) (pa_cons (pv 4) (pa_cons (pv 2) pa_nil)))) pss_nil)
 (pss_cons (ps_expr (pe_bm PySem.F.plainAttrs_list PySem.F.slot_list_append PySem.F.type_list_append mt_append (pv 3) (pa_cons (pe_dget (hu_of hr) (pe_fld (pv 0) rfl) (pe_tup (pa_cons (pv 2) (pa_cons (pv 5) pa_nil))) (fun _ _ => rfl)) pa_nil)))
 (pss_one (ps_set (i := 2) sc_steps_along.nd rfl (Or.inl rfl) (pe_ix (ix_tup : IxR _ (rIxT K)) (pe_ix (ix_list : IxR _ (rIxL K)) (pv 3) (pv 4) (fun _ _ => rfl)) (pe_int) (fun _ _ => rfl)))))))
 (pss_one (ps_ret (pv 3)))))))), ?_⟩
    rcases h with ⟨hb, k⟩ | ⟨x, s0, st, tl, rfl, cv, ok, h⟩
    · exact ⟨_, rfl, v, rfl, .inr ⟨hb, k⟩⟩
    refine ⟨_, rfl, .ref x, rfl, .inl ⟨x, s0, st, tl, rfl, cv, ?_⟩⟩
    rcases h with ⟨hb, k⟩ | ⟨z, rfl, hT, kn, ky⟩
    · rcases hb with ⟨z, rfl, hz, hT⟩ | ⟨t, ty, e⟩
      · refine ⟨_, rfl, .str z, rfl, .inl ⟨z, rfl, hz, fun H1 s1 => ?_⟩⟩
        rw [show okL 0 400 z = false from hT]
        refine ⟨_, rfl, iteT ?_⟩
        exact ⟨_, rfl, rfl, (by show 1 ≤ 900; decide), fun d H' hd sm e => k d H' (s1.free hd) (s1.trans sm) e⟩
      · refine ⟨_, rfl, wv, rfl, .inr ⟨t, ty _ (fun _ _ h => h), e, ⟨_, rfl, iteT ?_⟩⟩⟩
        exact ⟨_, rfl, rfl, (by show 1 ≤ 900; decide), fun d H' hd sm e => k d H' hd sm e⟩
    have l4 : z.length ≤ 400 := okL_le hT
    refine ⟨_, rfl, .str z, rfl, .inl ⟨z, rfl, by omega, fun H1 s1 => ?_⟩⟩
    rw [show okL 0 400 z = true from hT]
    refine ⟨_, rfl, iteF ?_⟩
    obtain ⟨dx, ss, ls, d, t, ys, zs, hx, c2, c3, c4, c5, c6, c7, ⟨kvs, hd, hst, nd⟩, c9, c10⟩ := id cv
    refine ⟨_, rfl, x, _, dx, _, _, rfl, s1 _ _ hx, TC.cls, TC.nA _ (by decide), rfl, (by show 0 ≤ sizeLine; decide), fun L hL => ?_⟩
    have s2 : Same H1 (upd H1 L (.lst [])) := Same.new hL
    have gL : upd H1 L (.lst []) L = some (.lst (([] : List Addr).map V.ref)) := upd_same
    have hL0 : H L = none := s1.free hL
    have s02 := s1.trans s2
    generalize upd H1 L (.lst []) = H2 at s02 gL
    refine ⟨_, rfl, z, rfl, ?_⟩
    have hz0 : z.cps.size = z.cps.toList.length := by rw [Array.length_toList]
    refine for_it (walk_enumS (z := z)) (fun i σ H' => ∃ (v4 v5 : Option V) (s' : Str) (rs : List Addr) (w1 : List (Str × Str)), σ = [some (.ref x), some (.str z), some (.str s'), some (.ref L), v4, v5] ∧ Same H H' ∧
      H' L = some (.lst (rs.map V.ref)) ∧ StsAt K H' rs w1 ∧ w1.length = i ∧ Wk st s0 (z.cps.toList.take i) w1 s')
      ⟨_, _, s0, [], [], rfl, s02, gL, ⟨rfl, fun i r p a => by simp at a⟩, rfl, by rw [List.take_zero]; exact .nil _⟩ (fun _ _ _ _ _ => True.intro) ?_ ?_
    · rintro i xv σ H3 H4 hi ⟨v4, v5, s', rs, w1, rfl, sm, gL, sts, lw, wk2⟩ ⟨T1, x1, y1, rfl, hT1, rfl, h1, h2⟩
      obtain rfl : V.int (i : Nat) = x1 := Option.some.inj h1
      obtain ⟨c, hc⟩ : ∃ c, z.cps[i]? = some c := ⟨_, Array.getElem?_eq_getElem hi⟩
      have h2' : (z.cps[i]?).map (fun c => V.str ⟨#[c]⟩) = some y1 := h2
      rw [hc] at h2'
      obtain rfl : V.str ⟨#[c]⟩ = y1 := Option.some.inj h2'
      have hcl : z.cps.toList[i]? = some c := by rw [Array.getElem?_toList]; exact hc
      have tk : z.cps.toList.take (i + 1) = z.cps.toList.take i ++ [c] := by
        rw [List.take_add_one, hcl]
        rfl
      have q3 : Same H3 (upd H3 T1 (.tup [.int (i : Nat), .str ⟨#[c]⟩])) := Same.new hT1
      have sm2 := sm.trans q3
      have gL := q3 _ _ gL
      have sts := sts.same q3
      refine ⟨T1, _, rfl, SqT.of upd_same, rfl, _, _, rfl, _, _, rfl, rfl, ?_⟩
      generalize upd H3 T1 (.tup [.int (i : Nat), .str ⟨#[c]⟩]) = G at sm2 gL sts
      refine ⟨_, rfl, _, rfl, (by show 2 ≤ sizeLine; decide), fun kt hkt => ?_⟩
      have q4 : Same G (upd G kt (.tup [.str s', .str ⟨#[c]⟩])) := Same.new hkt
      have sm3 := sm2.trans q4
      have hk : upd G kt (.tup [.str s', .str ⟨#[c]⟩]) kt = some (.tup [.str s', .str ⟨#[c]⟩]) := upd_same
      have gL := q4 _ _ gL
      have sts := sts.same q4
      generalize upd G kt (.tup [.str s', .str ⟨#[c]⟩]) = G1 at sm3 hk gL sts
      refine ⟨_, rfl, x, _, dx, _, _, rfl, sm3 _ _ hx, TC.cls, TC.nA _ (by decide), rfl, ?_⟩
      refine ⟨d, _, rfl, .inr ⟨kvs, [.inr s', .inr ⟨#[c]⟩], kt, .inl (sm3 _ _ hd), rfl, hk, rfl⟩, ?_⟩
      rcases (hst.same sm3).get nd s' ⟨#[c]⟩ with ⟨e1, e2⟩ | ⟨a, to, q, e1, e2, e3⟩
      · rw [e2]
        refine ⟨_, rfl, iteT ?_⟩
        exact ⟨_, rfl, _, rfl, rfl, (by show 2 ≤ 900; decide), fun dd H' hdd smd e => kn i c w1 s' hcl wk2 e1 dd H' (sm3.free hdd) (sm3.trans smd) e⟩
      · rw [e2]
        refine ⟨_, rfl, iteF ?_⟩
        have rl : rs.length ≤ 400 := by
          rw [sts.1, lw]
          have : z.cps.size ≤ 400 := l4
          omega
        refine ⟨_, rfl, .inl ⟨rfl, _, SqL.of gL⟩, _, rfl, x, _, dx, _, _, rfl, sm3 _ _ hx, TC.cls, TC.nA _ (by decide), rfl, _, rfl, _, rfl, (by show 2 ≤ sizeLine; decide), fun kt2 hkt2 => ?_⟩
        have q5 : Same G1 (upd G1 kt2 (.tup [.str s', .str ⟨#[c]⟩])) := Same.new hkt2
        have hk2 : upd G1 kt2 (.tup [.str s', .str ⟨#[c]⟩]) kt2 = some (.tup [.str s', .str ⟨#[c]⟩]) := upd_same
        have sm4 := sm3.trans q5
        have gL := q5 _ _ gL
        have sts := sts.same q5
        have e3 := e3.ext q5
        generalize upd G1 kt2 (.tup [.str s', .str ⟨#[c]⟩]) = G2 at sm4 hk2 gL sts e3
        refine ⟨d, .ref q, rfl, .inr ⟨kvs, [.inr s', .inr ⟨#[c]⟩], kt2, .inl (sm4 _ _ hd), rfl, hk2, e2.symm⟩, ?_⟩
        refine ⟨L, rs.map V.ref, .ref q, rfl, rfl, gL, ?_, ?_⟩
        · rw [List.length_map]
          exact Nat.lt_of_le_of_lt rl (by decide)
        have gL2 : upd G2 L (.lst (rs.map V.ref ++ [.ref q])) L = some (.lst ((rs ++ [q]).map V.ref)) := by
          rw [upd_same, List.map_append]
          rfl
        have sm5 : Same H (upd G2 L (.lst (rs.map V.ref ++ [.ref q]))) := fun b o eb => upd_oth (fun z => by rw [z, hL0] at eb; cases eb) (sm4 _ _ eb)
        have st2 : StsAt K (upd G2 L (.lst (rs.map V.ref ++ [.ref q]))) (rs ++ [q]) (w1 ++ [(a, to)]) := (sts.updL gL).snoc (p := (a, to)) (sqT_updL e3 gL)
        have e3' : SqT K (upd G2 L (.lst (rs.map V.ref ++ [.ref q]))) q [.str a, .str to] := sqT_updL e3 gL
        generalize upd G2 L (.lst (rs.map V.ref ++ [.ref q])) = G3 at gL2 sm5 st2 e3'
        have at_ : atI ((rs ++ [q]).map V.ref) ((i : Nat) : Int) = some (.ref q) := by
          refine atI_nat ?_
          rw [List.getElem?_map, List.getElem?_append_right (by rw [sts.1, lw]; exact Nat.le_refl _), sts.1, lw, Nat.sub_self]
          rfl
        refine ⟨_, rfl, _, rfl, L, _, _, .ref q, rfl, rfl, SqL.of gL2, at_, q, _, 1, .str to, rfl, rfl, e3', rfl, ?_⟩
        exact ⟨_, _, to, rs ++ [q], w1 ++ [(a, to)], rfl, sm5, gL2, st2, by rw [List.length_append, lw]; rfl, by rw [tk]; exact wk2.snoc e1⟩
    · rintro σ H' ⟨v4, v5, s', rs, w1, rfl, sm, gL, sts, lw, wk2⟩
      rw [hz0, List.take_length] at wk2
      exact ⟨_, rfl, ky w1 s' (wk2.le ok.ost).1 wk2 L rs H' sm gL sts⟩
end
end KC

namespace KC
open PySem L2 PyProof.Rows
theorem atI_lastI {xs : List Int} {v : Int} (h : xs.getLast? = some v) : atI (xs.map V.int) (-1) = some (.int v) := by
  obtain ⟨ys, rfl⟩ := List.getLast?_eq_some_iff.mp h
  rw [List.map_append]
  exact atI_last _ _
theorem fm_goal (ws : List (Str × Str)) : ∀ (xs : List V) (i : Nat), i + xs.length = ws.length → fm (fun i _ => (ws[i]?).map fun p => V.str p.2) i xs = (ws.drop i).map fun p => V.str p.2
  | [], i, h => by
    rw [List.drop_eq_nil_of_le (by simpa using Nat.le_of_eq h.symm)]
    rfl
  | x :: xs, i, h => by
    rw [List.length_cons] at h
    have hl : i < ws.length := by omega
    rw [List.drop_eq_getElem_cons hl, List.map_cons]
    show ((ws[i]?).map fun p => V.str p.2).toList ++ fm _ (i + 1) xs = _
    rw [fm_goal ws xs (i + 1) (by omega), List.getElem?_eq_getElem hl]
    rfl
section
variable {P : Program} {w : World} {K : PySem.W.Frag} {mg : Str → Option Value} {base : Heap}
def spClimbs (K : PySem.W.Frag) (mg : Str → Option Value) : Sp := fun vs H Q E => ∃ v wv, vs = [v, wv] ∧ PreA K mg v wv H E fun _ ws =>
  ∀ (R : Addr) H', Same H H' → H' R = some (.tup ((hts 0 ws).map V.int)) → Q (.ref R) H'
theorem sp_climbs_len : ∀ vs H Q E, spClimbs K mg vs H Q E → vs.length = (["text", "converter"] : List Str).length := by
  rintro vs H Q E ⟨v, wv, rfl, _⟩
  rfl
theorem kp_climbs (TA : TxA K mg) (RZ : ErrR P w K mg base) : KfX P w K mg base 5 "climbs" ["converter", "text"] (spClimbs K mg) ∧ KfXV P w K mg base 5 "climbs" ["converter", "text"] ["text", "converter"] (spClimbs K mg) := by
  have TM := TA.M
  have TC := TM.C
  have T := TC.T
  refine TA.climbs.okX sc_climbs (fun vs H Q E h => ?_) (fun f cdv A outer s H vs Q E hA hr h => ?_)
  · obtain ⟨v, wv, rfl, _⟩ := h
    rfl
  · obtain ⟨v, wv, rfl, h⟩ := h
    refine ⟨_, (pss_cons (ps_set (i := 2) sc_climbs.nd rfl (Or.inl rfl) (pe_lst (pa_cons (pe_int) pa_nil)))
 (pss_cons (ps_for (passes_of rfl) rfl (pi_list (pe_kfX (kp_along TA RZ) hr (passes_call (takes_of rfl rfl rfl rfl) (fun _ _ _ _ h => h)) (by rfl) (pa_cons (pv 0) (pa_cons (pv 1) pa_nil)))) (pg_tup rfl (pgs_cons (pg_name (i := 3) sc_climbs.nd rfl (Or.inl rfl)) (pgs_cons (pg_name (i := 4) sc_climbs.nd rfl (Or.inl rfl)) pgs_nil)))
 (pss_one (ps_expr (pe_bm PySem.F.plainAttrs_list PySem.F.slot_list_append PySem.F.type_list_append mt_append (pv 2) (pa_cons (pe_op op_sub (pe_op op_add (pe_ix (ix_list : IxR _ (rIxL K)) (pv 2) (pe_un un_neg (pe_int)) (fun _ _ => rfl)) (pe_callB call_len (by rfl) (T.nb _ (by decide)) PySem.boot_len (pa_cons (pv 3) pa_nil))) (pe_int)) pa_nil)))))
 (pss_one (ps_ret (pe_callTy call_tuple_of (by rfl) (T.nb _ (by decide)) (by decide +kernel) (pa_cons (pv 2) pa_nil)))))), ?_⟩
    refine ⟨(by show 1 ≤ sizeLine; decide), fun L hL => ?_⟩
    have s1 : Same H (upd H L (.lst [.int 0])) := Same.new hL
    have gL : upd H L (.lst [.int 0]) L = some (.lst ((hts 0 []).map V.int)) := upd_same
    generalize upd H L (.lst [.int 0]) = H1 at s1 gL
    refine ⟨_, rfl, _, rfl, v, wv, rfl, h.same s1 fun s0 ws wl p4 k M rs H2 s2 gM sts => ?_⟩
    have gL2 := s2 _ _ gL
    have s12 := s1.trans s2
    refine ⟨M, rfl, ⟨_, SqL.of gM⟩, ?_⟩
    have nML : M ≠ L := fun z => by
      rw [z] at gM
      rw [gL2] at gM
      have := HO.lst.inj (Option.some.inj gM)
      cases rs with
      | nil => simp [hts] at this
      | cons r rs => simp [hts] at this
    refine for_it (walk_list (K := K) (a := M) (xs := rs.map V.ref)) (fun i σ H' => ∃ (v3 v4 : Option V), σ = [some v, some wv, some (.ref L), v3, v4] ∧ Same H H' ∧
      H' L = some (.lst ((hts 0 (ws.take i)).map V.int)) ∧ H' M = some (.lst (rs.map V.ref)) ∧ StsAt K H' rs ws)
      ⟨_, _, rfl, s12, gL2, gM, sts⟩ (fun i σ H' _ ⟨_, _, _, _, _, q, _⟩ => SqL.of q) ?_ ?_
    · rintro i v0 σ H3 H4 hi ⟨v3, v4, rfl, sm, gL3, gM3, st3⟩ ⟨rfl, hv⟩
      rw [List.length_map] at hi
      have e0 : (rs.map V.ref)[i]? = some (.ref rs[i]) := by rw [List.getElem?_map, List.getElem?_eq_getElem hi]; rfl
      rw [e0] at hv
      cases hv
      obtain ⟨p, hp⟩ : ∃ p, ws[i]? = some p := ⟨_, List.getElem?_eq_getElem (by rw [← sts.1]; exact hi)⟩
      have hq := st3.2 i _ p (List.getElem?_eq_getElem hi) hp
      have tk : ws.take (i + 1) = ws.take i ++ [p] := by
        rw [List.take_add_one, hp]
        rfl
      have li : (ws.take i).length ≤ 400 := by
        rw [List.length_take]
        omega
      refine ⟨rs[i], _, rfl, hq, rfl, _, _, rfl, _, _, rfl, rfl, ?_⟩
      have pl : p.1.length ≤ 4 := p4 p (List.mem_of_getElem? hp)
      refine ⟨_, rfl, .inl ⟨rfl, _, SqL.of gL3⟩, _, rfl, _, rfl, L, _, -1, _, rfl, rfl, SqL.of gL3, atI_lastI (hts_last 0 _), _, rfl, .str p.1, _, rfl, ⟨Nat.le_trans pl (by decide), rfl⟩, _, _, rfl, rfl, _, _, rfl, rfl, L, _, _, rfl, rfl, gL3, ?_, ?_⟩
      · rw [List.length_map, hts_len]
        exact Nat.lt_of_le_of_lt (show _ ≤ 401 by omega) (by decide)
      have nLH : H L = none := hL
      refine ⟨_, _, rfl, fun b o eb => upd_oth (fun z => by rw [z, nLH] at eb; cases eb) (sm _ _ eb), ?_, upd_oth nML gM3, st3.updL gL3⟩
      rw [upd_same, tk, hts_app, List.map_append]
      rfl
    · rintro σ H' ⟨v3, v4, rfl, sm, gL3, gM3, st3⟩
      rw [List.length_map, sts.1, List.take_length] at gL3
      exact ⟨_, rfl, L, _, rfl, .inl ⟨SqL.of gL3, fun R hR => k R _ (sm.trans (Same.new hR)) upd_same⟩⟩
def spRunF (K : PySem.W.Frag) (mg : Str → Option Value) : Sp := fun vs H Q E => ∃ v wv, vs = [v, wv] ∧ PreA K mg v wv H E fun s ws =>
  ∀ (R : Addr) H', Same H H' → H' R = some (.tup ((s :: ws.map (·.2)).map V.str)) → Q (.ref R) H'
theorem kp_runF (TA : TxA K mg) (RZ : ErrR P w K mg base) : KfX P w K mg base 5 "run" ["converter", "text"] (spRunF K mg) := by
  have TM := TA.M
  have TC := TM.C
  have T := TC.T
  refine TA.run.okX sc_run (fun vs H Q E h => ?_) (fun f cdv A outer s H vs Q E hA hr h => ?_)
  · obtain ⟨v, wv, rfl, _⟩ := h
    rfl
  · obtain ⟨v, wv, rfl, h⟩ := h
    refine ⟨_, (pss_cons (ps_set (i := 2) sc_run.nd rfl (Or.inl rfl) (pe_kfX (kp_along TA RZ) hr (passes_call (takes_of rfl rfl rfl rfl) (fun _ _ _ _ h => h)) (by rfl) (pa_cons (pv 0) (pa_cons (pv 1) pa_nil))))
 (pss_one (ps_ret (pe_tup (pa_cons (pe_fld (pv 0) rfl) (StX.pa_star (pe_lc (g := gTup K 2 (gCons (gName 3) (gCons (gName 4) gNil))) (own := [("answer", 3), ("state", 4)]) (tt := tYes) rfl sc_run.nd (pi_list (pv 2)) (blkOk_by (N := n_run) (sc := defScope s_run) (by decide +kernel)) (fun _ _ _ _ _ => pg_tup rfl (pgs_cons (pg_name (i := 3) sc_run.nd rfl (Or.inl rfl)) (pgs_cons (pg_name (i := 4) sc_run.nd rfl (Or.inl rfl)) pgs_nil))) (fun _ _ _ _ _ => pts_nil) (fun _ _ _ _ _ => (pv 4))) pa_nil)))))), ?_⟩
    rcases h with h | ⟨x, s0, st, tl, rfl, cv, ok, h⟩
    · exact ⟨_, rfl, _, rfl, v, wv, rfl, .inl h⟩
    rcases h with h | ⟨z, rfl, hT, kn, ky⟩
    · exact ⟨_, rfl, _, rfl, .ref x, wv, rfl, .inr ⟨x, s0, st, tl, rfl, cv, ok, .inl h⟩⟩
    refine ⟨_, rfl, _, rfl, .ref x, .str z, rfl, .inr ⟨x, s0, st, tl, rfl, cv, ok, .inr ⟨z, rfl, hT, kn, fun ws e p4 wk M rs H2 s2 gM sts => ?_⟩⟩⟩
    obtain ⟨dx, ss, ls, d, t, ys, zs, hx, c2, c3, c4, c5, c6, c7, c8, c9, c10⟩ := id cv
    refine ⟨_, rfl, x, _, dx, _, _, rfl, s2 _ _ hx, TC.cls, TC.nA _ (by decide), rfl, ?_⟩
    have wl : ws.length ≤ 400 := by
      rw [wk.len, Array.length_toList]
      exact okL_le hT
    refine ⟨_, rfl, M, rfl, ⟨_, SqL.of gM⟩, fun D hD => ?_⟩
    refine lc_pureW (walk_list (K := K) (a := M) (xs := rs.map V.ref)) (xs := rs.map V.ref) (r := fun i _ => (ws[i]?).map fun p => V.str p.2) rfl (fun i H x H' y => ⟨y.1, y.2⟩) (fun H' sm => SqL.of (sm _ _ gM)) ?_ hD ?_ ?_
    · rw [List.length_map, sts.1]
      exact Nat.le_trans wl (by decide)
    · intro i v H' hv sm Ky Kn hy hn
      have hi : i < rs.length := by
        rcases Nat.lt_or_ge i rs.length with h | h
        · exact h
        · rw [List.getElem?_eq_none (by rw [List.length_map]; exact h)] at hv
          cases hv
      rw [List.getElem?_map, List.getElem?_eq_getElem hi] at hv
      obtain rfl : V.ref rs[i] = v := Option.some.inj hv
      obtain ⟨p, hp⟩ : ∃ p, ws[i]? = some p := ⟨_, List.getElem?_eq_getElem (by rw [← sts.1]; exact hi)⟩
      have hq := (sts.same sm).2 i _ p (List.getElem?_eq_getElem hi) hp
      refine ⟨rs[i], _, rfl, hq, rfl, _, _, rfl, _, _, rfl, rfl, rfl, yes_run ⟨_, rfl, hy (.str p.2) ?_⟩⟩
      show (ws[i]?).map _ = _
      rw [hp]
      rfl
    · rw [fm_goal ws _ 0 (by rw [List.length_map, sts.1]; omega), List.drop_zero]
      have s3 : Same H2 (upd H2 D (.lst (ws.map fun p => V.str p.2))) := Same.new hD
      refine ⟨D, _, rfl, .inr (SqL.of upd_same), ?_, fun R hR => ky ws e p4 wk R _ ((s2.trans s3).trans (Same.new hR)) ?_⟩
      · rw [List.length_cons, List.append_nil, List.length_map]
        exact Nat.le_trans (show _ ≤ 401 by omega) (by decide)
      · rw [upd_same, List.append_nil, List.map_cons, List.map_map]
        rfl
end
end KC

namespace KC
open PySem L2 PyProof.Rows
/-- a step put in -/
def putSt (st : List StE) (e : StE) : List StE :=
  if (st.any fun x => decide (x.1 = e.1)) = true then st.map (fun x => if x.1 = e.1 then (x.1, e.2) else x) else st ++ [e]
def putTl (tl : List (Str × Str)) (e : Str × Str) : List (Str × Str) :=
  if (tl.any fun x => decide (x.1 = e.1)) = true then tl.map (fun x => if x.1 = e.1 then (x.1, e.2) else x) else tl ++ [e]
theorem stK_eq (x e : StE) : stK x = stK e ↔ x.1 = e.1 := by
  unfold stK
  constructor
  · intro h
    have h1 := List.cons.inj h
    have h2 := List.cons.inj h1.2
    exact Prod.ext (Sum.inr.inj h1.1) (Sum.inr.inj h2.1)
  · intro h
    rw [h]
theorem nd_put {κ : Type} [DecidableEq κ] {kvs : List (κ × V)} {k : κ} {v : V} (nd : (kvs.map (·.1)).Nodup) : ((putK kvs k v).map (·.1)).Nodup := by
  unfold putK
  split
  · rename_i h
    have e : ((kvs.map fun kv => if kv.1 = k then (kv.1, v) else kv).map (·.1)) = kvs.map (·.1) := by
      rw [List.map_map]
      refine List.map_congr_left fun x _ => ?_
      show (if x.1 = k then (x.1, v) else x).1 = x.1
      split <;> rfl
    rw [e]
    exact nd
  · rename_i h
    rw [List.map_append, List.nodup_append]
    refine ⟨nd, by simp, ?_⟩
    intro a ha b hb z
    simp only [List.map_cons, List.map_nil, List.mem_singleton] at hb
    subst hb
    obtain ⟨x, hx, e⟩ := List.mem_map.mp ha
    refine h ?_
    rw [List.any_eq_true]
    exact ⟨x, hx, decide_eq_true (e.trans z)⟩
theorem any_st {K : PySem.W.Frag} {H : Hp} {kvs : List (List Key × V)} {st : List StE} (h : StK K H kvs st) (e : StE) :
    (kvs.any fun kv => decide (kv.1 = stK e)) = (st.any fun x => decide (x.1 = e.1)) := by
  have e1 : (kvs.any fun kv => decide (kv.1 = stK e)) = ((kvs.map (·.1)).any fun k => decide (k = stK e)) := by rw [List.any_map]; rfl
  have e2 : (st.any fun x => decide (x.1 = e.1)) = ((st.map stK).any fun k => decide (k = stK e)) := by
    rw [List.any_map]
    congr 1
    funext x
    exact decide_eq_decide.mpr (stK_eq x e).symm
  rw [e1, e2, h.1]
theorem StK.put {K : PySem.W.Frag} {H : Hp} {kvs : List (List Key × V)} {st : List StE} {e : StE} {q : Addr} (h : StK K H kvs st) (hq : SqT K H q [.str e.2.1, .str e.2.2]) :
    StK K H (putK kvs (stK e) (.ref q)) (putSt st e) := by
  have ha := any_st h e
  unfold putK putSt
  rw [ha]
  by_cases c : (st.any fun x => decide (x.1 = e.1)) = true
  · rw [if_pos c, if_pos c]
    refine ⟨?_, fun i y hy => ?_⟩
    · rw [List.map_map, List.map_map]
      have e1 : (kvs.map ((fun x => x.1) ∘ fun kv => if kv.1 = stK e then (kv.1, V.ref q) else kv)) = kvs.map (·.1) := by
        refine List.map_congr_left fun x _ => ?_
        show (if x.1 = stK e then (x.1, V.ref q) else x).1 = x.1
        split <;> rfl
      have e2 : (st.map (stK ∘ fun x => if x.1 = e.1 then (x.1, e.2) else x)) = st.map stK := by
        refine List.map_congr_left fun x _ => ?_
        show stK (if x.1 = e.1 then (x.1, e.2) else x) = stK x
        split <;> rfl
      rw [e1, e2, h.1]
    · rw [List.getElem?_map] at hy
      cases hx : st[i]? with
      | none => rw [hx] at hy; cases hy
      | some x =>
        rw [hx] at hy
        obtain ⟨r, a1, a2⟩ := h.2 i x hx
        have hy' : (if x.1 = e.1 then (x.1, e.2) else x) = y := Option.some.inj hy
        by_cases d : x.1 = e.1
        · rw [if_pos d] at hy'
          subst hy'
          refine ⟨q, ?_, hq⟩
          rw [List.getElem?_map, a1]
          show some (if stK x = stK e then (stK x, V.ref q) else (stK x, V.ref r)) = some (stK (x.1, e.2), V.ref q)
          rw [if_pos ((stK_eq x e).mpr d)]
          rfl
        · rw [if_neg d] at hy'
          subst hy'
          refine ⟨r, ?_, a2⟩
          rw [List.getElem?_map, a1]
          show some (if stK x = stK e then (stK x, V.ref q) else (stK x, V.ref r)) = some (stK x, V.ref r)
          rw [if_neg (fun z => d ((stK_eq x e).mp z))]
  · rw [if_neg c, if_neg c]
    refine ⟨?_, fun i y hy => ?_⟩
    · rw [List.map_append, List.map_append, h.1]
      rfl
    · by_cases hi : i < st.length
      · rw [List.getElem?_append_left hi] at hy
        obtain ⟨r, a1, a2⟩ := h.2 i y hy
        refine ⟨r, ?_, a2⟩
        rw [List.getElem?_append_left (by rw [h.len]; exact hi)]
        exact a1
      · rw [List.getElem?_append_right (by omega)] at hy
        have hi0 : i - st.length = 0 := by
          cases hz : i - st.length with
          | zero => rfl
          | succ n => rw [hz] at hy; simp at hy
        rw [hi0] at hy
        simp at hy
        subst hy
        refine ⟨q, ?_, hq⟩
        rw [List.getElem?_append_right (by rw [h.len]; omega), h.len, hi0]
        rfl
theorem tlKv_put (tl : List (Str × Str)) (e : Str × Str) : putK (tl.map tlKv) (.inr e.1) (.str e.2) = (putTl tl e).map tlKv := by
  unfold putK putTl
  have e1 : ((tl.map tlKv).any fun kv => decide (kv.1 = (Sum.inr e.1 : Key))) = (tl.any fun x => decide (x.1 = e.1)) := by
    rw [List.any_map]
    congr 1
    funext x
    exact decide_eq_decide.mpr ⟨fun z => Sum.inr.inj z, fun z => by show (Sum.inr x.1 : Key) = _; rw [z]⟩
  rw [e1]
  split
  · rw [List.map_map, List.map_map]
    refine List.map_congr_left fun x _ => ?_
    show (if (Sum.inr x.1 : Key) = Sum.inr e.1 then (Sum.inr x.1, V.str e.2) else (Sum.inr x.1, V.str x.2)) = tlKv (if x.1 = e.1 then (x.1, e.2) else x)
    by_cases d : x.1 = e.1
    · rw [if_pos d, if_pos (by rw [d])]
      rfl
    · rw [if_neg d, if_neg (fun z => d (Sum.inr.inj z))]
      rfl
  · rw [List.map_append]
    rfl
theorem nd_putTl {tl : List (Str × Str)} {e : Str × Str} (nd : (tl.map (·.1)).Nodup) : ((putTl tl e).map (·.1)).Nodup := by
  unfold putTl
  split
  · have e1 : ((tl.map fun x => if x.1 = e.1 then (x.1, e.2) else x).map (·.1)) = tl.map (·.1) := by
      rw [List.map_map]
      refine List.map_congr_left fun x _ => ?_
      show (if x.1 = e.1 then (x.1, e.2) else x).1 = x.1
      split <;> rfl
    rw [e1]
    exact nd
  · rename_i h
    rw [List.map_append, List.nodup_append]
    refine ⟨nd, by simp, ?_⟩
    intro a ha b hb z
    simp only [List.map_cons, List.map_nil, List.mem_singleton] at hb
    subst hb
    obtain ⟨x, hx, ex⟩ := List.mem_map.mp ha
    refine h ?_
    rw [List.any_eq_true]
    exact ⟨x, hx, decide_eq_true (ex.trans z)⟩
theorem mem_putSt {st : List StE} {e x : StE} (h : x ∈ putSt st e) : x = e ∨ x ∈ st ∨ (∃ y ∈ st, y.1 = x.1 ∧ x.2 = e.2) := by
  unfold putSt at h
  split at h
  · obtain ⟨y, hy, rfl⟩ := List.mem_map.mp h
    by_cases d : y.1 = e.1
    · rw [if_pos d]
      exact .inr (.inr ⟨y, hy, rfl, rfl⟩)
    · rw [if_neg d]
      exact .inr (.inl hy)
  · rcases List.mem_append.mp h with h | h
    · exact .inr (.inl h)
    · exact .inl (List.mem_singleton.mp h)
theorem mem_putTl {tl : List (Str × Str)} {e x : Str × Str} (h : x ∈ putTl tl e) : x = e ∨ x ∈ tl ∨ (∃ y ∈ tl, y.1 = x.1 ∧ x.2 = e.2) := by
  unfold putTl at h
  split at h
  · obtain ⟨y, hy, rfl⟩ := List.mem_map.mp h
    by_cases d : y.1 = e.1
    · rw [if_pos d]
      exact .inr (.inr ⟨y, hy, rfl, rfl⟩)
    · rw [if_neg d]
      exact .inr (.inl hy)
  · rcases List.mem_append.mp h with h | h
    · exact .inr (.inl h)
    · exact .inl (List.mem_singleton.mp h)
theorem len_putSt (st : List StE) (e : StE) : (putSt st e).length ≤ st.length + 1 := by
  unfold putSt
  split
  · simp
  · simp
theorem len_putTl (tl : List (Str × Str)) (e : Str × Str) : (putTl tl e).length ≤ tl.length + 1 := by
  unfold putTl
  split
  · simp
  · simp
/-! names among some: as many at most -/
theorem addN_nd {l : List Str} {x : Str} (h : l.Nodup) : (addN l x).Nodup := by
  unfold addN
  split
  · exact h
  · rename_i n
    rw [List.nodup_append]
    refine ⟨h, by simp, ?_⟩
    intro a ha b hb z
    rw [List.mem_singleton] at hb
    subst hb
    subst z
    exact n ha
theorem addN_sub {l ns : List Str} {x : Str} (h : ∀ y ∈ l, y ∈ ns) (hx : x ∈ ns) : ∀ y ∈ addN l x, y ∈ ns := by
  unfold addN
  split
  · exact h
  · intro y hy
    rcases List.mem_append.mp hy with hy | hy
    · exact h y hy
    · rw [List.mem_singleton.mp hy]
      exact hx
theorem foldN_sub {ns : List Str} : ∀ (xs l : List Str), l.Nodup → (∀ y ∈ l, y ∈ ns) → (∀ y ∈ xs, y ∈ ns) → (xs.foldl addN l).Nodup ∧ ∀ y ∈ xs.foldl addN l, y ∈ ns
  | [], l, h1, h2, _ => ⟨h1, h2⟩
  | x :: xs, l, h1, h2, h3 => by
    rw [List.foldl_cons]
    exact foldN_sub xs _ (addN_nd h1) (addN_sub h2 (h3 x List.mem_cons_self)) (fun y hy => h3 y (List.mem_cons_of_mem _ hy))
theorem foldS_sub {ns : List Str} : ∀ (st : List StE) (l : List Str), l.Nodup → (∀ y ∈ l, y ∈ ns) → (∀ e ∈ st, e.1.1 ∈ ns ∧ e.2.2 ∈ ns) → (st.foldl addS l).Nodup ∧ ∀ y ∈ st.foldl addS l, y ∈ ns
  | [], l, h1, h2, _ => ⟨h1, h2⟩
  | x :: xs, l, h1, h2, h3 => by
    rw [List.foldl_cons]
    have hx := h3 x List.mem_cons_self
    exact foldS_sub xs _ (addN_nd (addN_nd h1)) (addN_sub (addN_sub h2 hx.1) hx.2) (fun y hy => h3 y (List.mem_cons_of_mem _ hy))
theorem nd_len {α : Type} [DecidableEq α] : ∀ {l ns : List α}, l.Nodup → (∀ y ∈ l, y ∈ ns) → l.length ≤ ns.length
  | [], ns, _, _ => by simp
  | x :: l, ns, h, s => by
    rw [List.nodup_cons] at h
    have hx := s x List.mem_cons_self
    have := nd_len (ns := ns.erase x) h.2 fun y hy => (List.mem_erase_of_ne (fun z => h.1 (by rw [← z]; exact hy))).mpr (s y (List.mem_cons_of_mem _ hy))
    rw [List.length_erase_of_mem hx] at this
    have : 0 < ns.length := List.length_pos_of_mem hx
    rw [List.length_cons]
    omega
theorem names_le {ns : List Str} {s : Str} {st : List StE} {tl : List (Str × Str)} (hs : s ∈ ns) (h1 : ∀ e ∈ st, e.1.1 ∈ ns ∧ e.2.2 ∈ ns) (h2 : ∀ e ∈ tl, e.1 ∈ ns) :
    (namesOf s st tl).length ≤ ns.length := by
  unfold namesOf
  have a := foldS_sub (ns := ns) st [s] (by simp) (fun y hy => by rw [List.mem_singleton.mp hy]; exact hs) h1
  have b := foldN_sub (ns := ns) (tl.map (·.1)) _ a.1 a.2 (fun y hy => by
    obtain ⟨e, he, rfl⟩ := List.mem_map.mp hy
    exact h2 e he)
  exact nd_len b.1 b.2
theorem letters_le {ls : List Str} {st : List StE} (h : ∀ e ∈ st, e.1.2 ∈ ls) : (lettersOf st).length ≤ ls.length := by
  unfold lettersOf
  have b := foldN_sub (ns := ls) (st.map fun e => e.1.2) [] (by simp) (fun y hy => by cases hy) (fun y hy => by
    obtain ⟨e, he, rfl⟩ := List.mem_map.mp hy
    exact h e he)
  exact nd_len b.1 b.2
/-- what the draw of parts keeps beside: all names among ns, all letters among ls -/
structure Among (ns ls : List Str) (st : List StE) (tl : List (Str × Str)) : Prop where
  st : ∀ e ∈ st, e.1.1 ∈ ns ∧ e.1.2 ∈ ls ∧ isAns e.2.1 = true ∧ e.2.2 ∈ ns
  tl : ∀ e ∈ tl, e.1 ∈ ns ∧ isAns e.2 = true
theorem Among.put {ns ls : List Str} {st : List StE} {tl : List (Str × Str)} (h : Among ns ls st tl) {e : StE} (he : e.1.1 ∈ ns ∧ e.1.2 ∈ ls ∧ isAns e.2.1 = true ∧ e.2.2 ∈ ns) : Among ns ls (putSt st e) tl :=
  ⟨fun x hx => by
    rcases mem_putSt hx with rfl | hx | ⟨y, hy, e1, e2⟩
    · exact he
    · exact h.st x hx
    · have := h.st y hy
      rw [e1] at this
      rw [e2]
      exact ⟨this.1, this.2.1, he.2.2.1, he.2.2.2⟩, h.tl⟩
theorem Among.putT {ns ls : List Str} {st : List StE} {tl : List (Str × Str)} (h : Among ns ls st tl) {e : Str × Str} (he : e.1 ∈ ns ∧ isAns e.2 = true) : Among ns ls st (putTl tl e) :=
  ⟨h.st, fun x hx => by
    rcases mem_putTl hx with rfl | hx | ⟨y, hy, e1, e2⟩
    · exact he
    · exact h.tl x hx
    · have := h.tl y hy
      rw [e1] at this
      rw [e2]
      exact ⟨this.1, he.2⟩⟩
theorem Among.ok {ns ls : List Str} {s : Str} {st : List StE} {tl : List (Str × Str)} (h : Among ns ls st tl) (hs : s ∈ ns) (hn : ∀ x ∈ ns, isName x = true) (hl : ∀ x ∈ ls, isLet x = true)
    (ln : ns.length ≤ 6) (ll : ls.length ≤ 4) (h1 : st.length ≤ 1000) (h2 : tl.length ≤ 1000) : OkParts s st tl where
  os := hn s hs
  ost := fun e he => let ⟨a, b, c, d⟩ := h.st e he; ⟨hn _ a, hl _ b, c, hn _ d⟩
  lst := h1
  otl := fun e he => let ⟨a, b⟩ := h.tl e he; ⟨hn _ a, b⟩
  ltl := h2
  n6 := Nat.le_trans (names_le hs (fun e he => let ⟨a, _, _, d⟩ := h.st e he; ⟨a, d⟩) (fun e he => (h.tl e he).1)) ln
  l4 := Nat.le_trans (letters_le fun e he => (h.st e he).2.1) ll
end KC

namespace KC
open PySem L2 PyProof.Rows
theorem PenAt.mono {H : Hp} {p c : Addr} {ns : List Int} {n m : Nat} (h : PenAt H p c ns n) (le : n ≤ m) : PenAt H p c ns m := by
  obtain ⟨t, g, a, b, e, f, z⟩ := h
  exact ⟨t, g, a, b, e, f, by omega⟩
theorem PenAt.same {H H' : Hp} {p c : Addr} {ns : List Int} {n : Nat} (h : PenAt H p c ns n) (s : Same H H') : PenAt H' p c ns n := by
  obtain ⟨t, g, a, b, e⟩ := h
  exact ⟨t, g, s _ _ a, s _ _ b, e⟩
theorem But.of_same {p : Addr} {H H' : Hp} (s : Same H H') : But p H H' := fun b _ o e => s b o e
theorem But.tr {p : Addr} {H H1 H2 : Hp} (a : But p H H1) (b : But p H1 H2) : But p H H2 := fun x hx o e => b x hx o (a x hx o e)
theorem StAt.but {K : PySem.W.Frag} {H H' : Hp} {p d : Addr} {st : List StE} {xs : List V} (h : StAt K H d st) (hp : H p = some (.lst xs)) (m : But p H H') : StAt K H' d st := by
  obtain ⟨kvs, a, b, c⟩ := h.ex
  refine ⟨kvs, m _ (fun z => by rw [z, hp] at a; cases a) _ a, ⟨b.1, fun i e he => ?_⟩, c⟩
  obtain ⟨q, h1, h2⟩ := b.2 i e he
  refine ⟨q, h1, ?_⟩
  rcases h2 with (h2 | ⟨o, h2⟩) | h2
  · exact .inl (.inl (m _ (fun z => by rw [z, hp] at h2; cases h2) _ h2))
  · exact .inl (.inr ⟨o, m _ (fun z => by rw [z, hp] at h2; cases h2) _ h2⟩)
  · exact .inr h2
theorem sqT_upd {K : PySem.W.Frag} {H : Hp} {d a : Addr} {xs : List V} {u u' : HO} (hd : H d = some u) (h : SqT K H a xs) (n1 : u ≠ .tup xs) (n2 : ∀ o, u ≠ .frz o (.tup xs)) : SqT K (upd H d u') a xs := by
  rcases h with (h | ⟨o, h⟩) | h
  · exact .inl (.inl (upd_oth (fun z => n1 (by rw [z, hd] at h; exact Option.some.inj h)) h))
  · exact .inl (.inr ⟨o, upd_oth (fun z => n2 o (by rw [z, hd] at h; exact Option.some.inj h)) h⟩)
  · exact .inr h
theorem StK.updT {K : PySem.W.Frag} {H : Hp} {d : Addr} {kvs : List (List Key × V)} {st : List StE} {kv2 : List (List Key × V)} {u : HO} (hd : H d = some (.dT kv2)) (h : StK K H kvs st) : StK K (upd H d u) kvs st :=
  ⟨h.1, fun i e he => let ⟨q, a, b⟩ := h.2 i e he; ⟨q, a, sqT_upd hd b (fun z => by cases z) (fun _ z => by cases z)⟩⟩
theorem StAt.updK {K : PySem.W.Frag} {H : Hp} {d t : Addr} {st : List StE} {kv2 : List (Key × V)} {u : HO} (ht : H t = some (.dK kv2)) (h : StAt K H d st) : StAt K (upd H t u) d st := by
  obtain ⟨kvs, a, b, c⟩ := h.ex
  exact ⟨kvs, upd_oth (fun z => by rw [z, ht] at a; cases a) a, ⟨b.1, fun i e he => let ⟨q, a, b⟩ := b.2 i e he; ⟨q, a, sqT_upd ht b (fun z => by cases z) (fun _ z => by cases z)⟩⟩, c⟩
theorem PenAt.upd {H : Hp} {p c d : Addr} {ns : List Int} {n : Nat} {o u : HO} (h : PenAt H p c ns n) (hd : H d = some o) (no : ∀ xs, o ≠ .lst xs) : PenAt (upd H d u) p c ns n := by
  obtain ⟨t, g, a, b, e⟩ := h
  exact ⟨t, g, upd_oth (fun z => by rw [z, hd] at a; exact no _ (Option.some.inj a)) a, upd_oth (fun z => by rw [z, hd] at b; exact no _ (Option.some.inj b)) b, e⟩
theorem PenAt.lst {H : Hp} {p c : Addr} {ns : List Int} {n : Nat} (h : PenAt H p c ns n) : ∃ xs, H p = some (.lst xs) := by
  obtain ⟨t, g, a, _⟩ := h
  exact ⟨_, a⟩
theorem PenAt.fresh {H : Hp} {p c b : Addr} {ns : List Int} {n : Nat} (h : PenAt H p c ns n) (hb : H b = none) : b ≠ p ∧ b ≠ c := by
  obtain ⟨t, g, a1, a2, _⟩ := h
  exact ⟨fun z => (by rw [z, a1] at hb; cases hb), fun z => (by rw [z, a2] at hb; cases hb)⟩
theorem PenAt.updF {H : Hp} {p c b : Addr} {ns : List Int} {n : Nat} {o : HO} (h : PenAt H p c ns n) (g : b ≠ p ∧ b ≠ c) : PenAt (L2.upd H b o) p c ns n := by
  obtain ⟨t, g', a, e, f⟩ := h
  exact ⟨t, g', upd_oth (Ne.symm g.1) a, upd_oth (Ne.symm g.2) e, f⟩
def plD (s : Str) (d t : Addr) : List (Key × V) := [(.inr "start", .str s), (.inr "steps", .ref d), (.inr "tails", .ref t)]
theorem pl_merge (s : Str) (d t : Addr) : mergeK [] (plD s d t) = plD s d t := by rfl
theorem pl_start (s : Str) (d t : Addr) : valV (plD s d t) (.inr "start") = some (.str s) := by rfl
theorem pl_steps (s : Str) (d t : Addr) : valV (plD s d t) (.inr "steps") = some (.ref d) := by rfl
theorem pl_tails (s : Str) (d t : Addr) : valV (plD s d t) (.inr "tails") = some (.ref t) := by rfl
/-- the parts of a converter, as the law keeps them -/
def PlAt (K : PySem.W.Frag) (H : Hp) (p : Addr) (s : Str) (st : List StE) (tl : List (Str × Str)) : Prop :=
  ∃ d t, H p = some (.dK (plD s d t)) ∧ StAt K H d st ∧ H t = some (.dK (tl.map tlKv)) ∧ (tl.map (·.1)).Nodup
theorem PlAt.same {K : PySem.W.Frag} {H H' : Hp} {p : Addr} {s : Str} {st : List StE} {tl : List (Str × Str)} (h : PlAt K H p s st tl) (m : Same H H') : PlAt K H' p s st tl := by
  obtain ⟨d, t, h1, h2, h3, h4⟩ := h
  exact ⟨d, t, m _ _ h1, h2.same m, m _ _ h3, h4⟩
theorem PlAt.but {K : PySem.W.Frag} {H H' : Hp} {p q : Addr} {s : Str} {st : List StE} {tl : List (Str × Str)} (h : PlAt K H q s st tl) (hp : ∃ xs, H p = some (.lst xs)) (m : But p H H') : PlAt K H' q s st tl := by
  obtain ⟨xs, hp⟩ := hp
  obtain ⟨d, t, h1, h2, h3, h4⟩ := h
  exact ⟨d, t, m _ (fun z => by rw [z, hp] at h1; cases h1) _ h1, h2.but hp m, m _ (fun z => by rw [z, hp] at h3; cases h3) _ h3, h4⟩
theorem cut_take {xs : List V} {m : Int} (h0 : 0 ≤ m) (h1 : m ≤ xs.length) : cutV xs none (some m) = xs.take m.toNat := by
  obtain ⟨n, rfl⟩ : ∃ n : Nat, m = (n : Int) := ⟨m.toNat, by omega⟩
  have q : cutV xs none (some (n : Int)) = (xs.drop (HT.sIx xs.length 0 none)).take (HT.sIx xs.length xs.length (some (n : Int)) - HT.sIx xs.length 0 none) := rfl
  rw [q, HT.sIx_nat, HT.sIx_none, List.drop_zero, Int.toNat_natCast, Nat.sub_zero, Nat.min_eq_left (by omega)]
def allStates : List Str := ["s", "t", "u", "abc", "v"]
def allLetters : List Str := ["a", "b", "n"]
theorem allStates_ok : ∀ x ∈ allStates, isName x = true := by decide +kernel
theorem allLetters_ok : ∀ x ∈ allLetters, isLet x = true := by decide +kernel
theorem ans_ok : ∀ x ∈ (["", "x", "a", "xy", "abc", "wxyz", "z", "yy", "qqq"] : List Str), isAns x = true := by decide +kernel
/-- how things stand in the draw of parts -/
structure Lp (K : PySem.W.Frag) (p c A1 A2 D Tl : Addr) (ns : List Int) (ss ls : List Str) (H G : Hp) (n : Nat) (st : List StE) (tl : List (Str × Str)) : Prop where
  gp : PenAt G p c ns n
  gb : But p H G
  ga1 : G A1 = some (.lst (ss.map V.str))
  ga2 : G A2 = some (.lst (ls.map V.str))
  gst : StAt K G D st
  gtl : G Tl = some (.dK (tl.map tlKv))
  gnd : (tl.map (·.1)).Nodup
  gam : Among ss ls st tl
theorem Lp.same {K : PySem.W.Frag} {p c A1 A2 D Tl : Addr} {ns : List Int} {ss ls : List Str} {H G G' : Hp} {n : Nat} {st : List StE} {tl : List (Str × Str)} (h : Lp K p c A1 A2 D Tl ns ss ls H G n st tl) (s : Same G G') :
    Lp K p c A1 A2 D Tl ns ss ls H G' n st tl :=
  ⟨h.gp.same s, But.tr h.gb (But.of_same s), s _ _ h.ga1, s _ _ h.ga2, h.gst.same s, s _ _ h.gtl, h.gnd, h.gam⟩
theorem Lp.draw {K : PySem.W.Frag} {p c A1 A2 D Tl : Addr} {ns : List Int} {ss ls : List Str} {H G G' : Hp} {n m : Nat} {st : List StE} {tl : List (Str × Str)} (h : Lp K p c A1 A2 D Tl ns ss ls H G n st tl) (n1 : A1 ≠ p) (n2 : A2 ≠ p)
    (gp : PenAt G' p c ns m) (b : But p G G') : Lp K p c A1 A2 D Tl ns ss ls H G' m st tl := by
  obtain ⟨t, g, a, _⟩ := id h.gp
  exact ⟨gp, But.tr h.gb b, b _ n1 _ h.ga1, b _ n2 _ h.ga2, h.gst.but a b, b _ (fun z => by have := h.gtl; rw [z, a] at this; cases this) _ h.gtl, h.gnd, h.gam⟩
theorem Lp.mono {K : PySem.W.Frag} {p c A1 A2 D Tl : Addr} {ns : List Int} {ss ls : List Str} {H G : Hp} {n m : Nat} {st : List StE} {tl : List (Str × Str)} (h : Lp K p c A1 A2 D Tl ns ss ls H G n st tl) (le : n ≤ m) :
    Lp K p c A1 A2 D Tl ns ss ls H G m st tl := ⟨h.gp.mono le, h.gb, h.ga1, h.ga2, h.gst, h.gtl, h.gnd, h.gam⟩
theorem Lp.putS {K : PySem.W.Frag} {p c A1 A2 D Tl q : Addr} {ns : List Int} {ss ls : List Str} {H G : Hp} {n : Nat} {st : List StE} {tl : List (Str × Str)} {kvs : List (List Key × V)} (h : Lp K p c A1 A2 D Tl ns ss ls H G n st tl)
    (hD : H D = none) (e : StE) (he : e.1.1 ∈ ss ∧ e.1.2 ∈ ls ∧ isAns e.2.1 = true ∧ e.2.2 ∈ ss) (gD : G D = some (.dT kvs)) (sk : StK K G kvs st) (nd : (kvs.map (·.1)).Nodup) (hq : SqT K G q [.str e.2.1, .str e.2.2]) :
    Lp K p c A1 A2 D Tl ns ss ls H (upd G D (.dT (putK kvs (stK e) (.ref q)))) n (putSt st e) tl where
  gp := h.gp.upd gD (fun _ z => by cases z)
  gb := fun b hb o eb => upd_oth (fun z => by rw [z, hD] at eb; cases eb) (h.gb b hb o eb)
  ga1 := upd_oth (fun z => by have := h.ga1; rw [z, gD] at this; cases this) h.ga1
  ga2 := upd_oth (fun z => by have := h.ga2; rw [z, gD] at this; cases this) h.ga2
  gst := ⟨_, upd_same, StK.updT gD (sk.put hq), nd_put nd⟩
  gtl := upd_oth (fun z => by have := h.gtl; rw [z, gD] at this; cases this) h.gtl
  gnd := h.gnd
  gam := h.gam.put he
theorem Lp.putT {K : PySem.W.Frag} {p c A1 A2 D Tl : Addr} {ns : List Int} {ss ls : List Str} {H G : Hp} {n : Nat} {st : List StE} {tl : List (Str × Str)} (h : Lp K p c A1 A2 D Tl ns ss ls H G n st tl)
    (hT : H Tl = none) (e : Str × Str) (he : e.1 ∈ ss ∧ isAns e.2 = true) :
    Lp K p c A1 A2 D Tl ns ss ls H (upd G Tl (.dK (putK (tl.map tlKv) (.inr e.1) (.str e.2)))) n st (putTl tl e) where
  gp := h.gp.upd h.gtl (fun _ z => by cases z)
  gb := fun b hb o eb => upd_oth (fun z => by rw [z, hT] at eb; cases eb) (h.gb b hb o eb)
  ga1 := upd_oth (fun z => by have := h.ga1; rw [z, h.gtl] at this; cases this) h.ga1
  ga2 := upd_oth (fun z => by have := h.ga2; rw [z, h.gtl] at this; cases this) h.ga2
  gst := h.gst.updK h.gtl
  gtl := by rw [tlKv_put]; exact upd_same
  gnd := nd_putTl h.gnd
  gam := h.gam.putT he
section
variable {P : Program} {w : World} {K : PySem.W.Frag} {mg : Str → Option Value} {base : Heap}
def spPlan (K : PySem.W.Frag) : Sp := fun vs H Q _ => ∃ (p c : Addr) (ns : List Int) (n : Nat), vs = [.ref p, .int 4] ∧ PenAt H p c ns n ∧ ns.length ≤ 63 ∧ n < 900000 ∧
  ∀ (q : Addr) (s : Str) (st : List StE) (tl : List (Str × Str)) (H' : Hp), OkParts s st tl → PlAt K H' q s st tl → PenAt H' p c ns (n + 100) → But p H H' → st.length ≤ 30 → Q (.ref q) H'
theorem kp_plan (T : Txt K mg) : Kf P w K mg base 3 "_law_plan" ["_law_pen_here", "_law_most"] (spPlan K) := by
  refine T.d_lplan.okF sc_lplan (fun vs H Q E h => ?_) (fun f cdv A outer s H vs Q E hA hr h => ?_)
  · obtain ⟨p, c, ns, n, rfl, _⟩ := h
    rfl
  · obtain ⟨p, c, ns, n, rfl, hp, hlen, hn, k⟩ := h
    refine ⟨_, (pss_cons (ps_par (i := 2) (j := 3) (by rfl) sc_lplan.nd rfl rfl (by decide) rfl rfl (pa_cons (pe_slice (sl_list : SlR _ (rSlL K)) (pe_lst (pa_cons (pe_str) (pa_cons (pe_str) (pa_cons (pe_str) (pa_cons (pe_str) (pa_cons (pe_str) pa_nil)))))) po_none (po_some (pe_op op_add (pe_int) (pe_kf (kp_draw T) hA hr (by rfl) (pa_cons (pv 0) (pa_cons (pv 1) pa_nil)))))) (pa_cons (pe_slice (sl_list : SlR _ (rSlL K)) (pe_lst (pa_cons (pe_str) (pa_cons (pe_str) (pa_cons (pe_str) pa_nil)))) po_none (po_some (pe_op op_add (pe_int) (pe_kf (kp_draw T) hA hr (by rfl) (pa_cons (pv 0) (pa_cons (pe_int) pa_nil)))))) pa_nil)) (by rfl))
 (pss_cons (ps_par (i := 4) (j := 5) (by rfl) sc_lplan.nd rfl rfl (by decide) rfl rfl (pa_cons pe_dnewT (pa_cons pe_dnewK pa_nil)) (by rfl))
 (pss_cons (ps_for PassesOwn.never rfl (pi_list (pv 2)) (pg_name (i := 6) sc_lplan.nd rfl (Or.inl rfl))
 (pss_cons (ps_for PassesOwn.never rfl (pi_list (pv 3)) (pg_name (i := 7) sc_lplan.nd rfl (Or.inl rfl))
 (pss_one (ps_if (pt_cmpR op_gt (pe_kf (kp_draw T) hA hr (by rfl) (pa_cons (pv 0) (pa_cons (pe_int) pa_nil))) (pe_int) (nomark _))
 (pss_one (ps_asg (pe_tup (pa_cons (pe_kf (kp_pick T) hA hr (by rfl) (pa_cons (pv 0) (pa_cons (pe_lst (pa_cons (pe_str) (pa_cons (pe_str) (pa_cons (pe_str) (pa_cons (pe_str) (pa_cons (pe_str) (pa_cons (pe_str) (pa_cons (pe_str) pa_nil)))))))) pa_nil))) (pa_cons (pe_kf (kp_pick T) hA hr (by rfl) (pa_cons (pv 0) (pa_cons (pv 2) pa_nil))) pa_nil))) (pg_sub (pv 4) (pe_tup (pa_cons (pv 6) (pa_cons (pv 7) pa_nil))) (set_dict (hu_of hr))))) pss_nil)))
 (pss_one (ps_if (pt_cmpR op_lt (pe_kf (kp_draw T) hA hr (by rfl) (pa_cons (pv 0) (pa_cons (pe_int) pa_nil))) (pe_int) (nomark _))
 (pss_one (ps_asg (pe_kf (kp_pick T) hA hr (by rfl) (pa_cons (pv 0) (pa_cons (pe_lst (pa_cons (pe_str) (pa_cons (pe_str) (pa_cons (pe_str) (pa_cons (pe_str) (pa_cons (pe_str) pa_nil)))))) pa_nil))) (pg_sub (pv 5) (pv 6) (set_dict (hu_of hr))))) pss_nil))))
 (pss_one (ps_ret (pe_disp (pps_cons (pe_str) (pe_kf (kp_pick T) hA hr (by rfl) (pa_cons (pv 0) (pa_cons (pe_slice (sl_list : SlR _ (rSlL K)) (pv 2) po_none (po_some (pe_int))) pa_nil))) (pps_cons (pe_str) (pv 4) (pps_cons (pe_str) (pv 5) pps_nil))) (by rfl) (by rfl) (fun z => by cases z) (by decide))))))), ?_⟩
    have np : ∀ {G : Hp} {a : Addr}, Same H G → G a = none → a ≠ p := fun s h => ((hp.same s).fresh h).1
    refine ⟨(by show 5 ≤ sizeLine; decide), fun L1 hL1 => ?_⟩
    have s1 : Same H (upd H L1 (.lst [.str "s", .str "t", .str "u", .str "abc", .str "v"])) := Same.new hL1
    refine ⟨_, rfl, _, rfl, p, c, _, ns, _, rfl, hp.same s1, hlen, by decide, by decide, by omega, fun m H2 m0 m1 hp2 b2 => ?_⟩
    have g1 := b2 L1 (np (fun _ _ h => h) hL1) _ (upd_same (o := .lst [.str "s", .str "t", .str "u", .str "abc", .str "v"]) (H := H) (a := L1))
    refine ⟨_, _, rfl, rfl, _, rfl, L1, _, rfl, SqL.of g1, fun A1 hA1 => ?_⟩
    have e1 : cutV ([.str "s", .str "t", .str "u", .str "abc", .str "v"] : List V) none (some (1 + m)) = (allStates.take (1 + m).toNat).map V.str := by
      rw [cut_take (by omega) (by show 1 + m ≤ 5; omega), List.map_take]
      rfl
    rw [e1]
    have so1 : (allStates.take (1 + m).toNat).length ≤ 4 := by
      rw [List.length_take]
      show min _ 5 ≤ 4
      omega
    have so2 : 0 < (allStates.take (1 + m).toNat).length := by
      rw [List.length_take]
      show 0 < min _ 5
      omega
    have so3 : ∀ x ∈ allStates.take (1 + m).toNat, isName x = true := fun x hx => allStates_ok x (List.mem_of_mem_take hx)
    generalize allStates.take (1 + m).toNat = ss at so1 so2 so3
    have b02 : But p H H2 := But.tr (But.of_same s1) b2
    have s3 : Same H2 (upd H2 A1 (.lst (ss.map V.str))) := Same.new hA1
    have gA1 : upd H2 A1 (.lst (ss.map V.str)) A1 = some (.lst (ss.map V.str)) := upd_same
    have nA1 : A1 ≠ p := (hp2.fresh hA1).1
    have hp3 := hp2.same s3
    generalize upd H2 A1 (.lst (ss.map V.str)) = H3 at s3 gA1 hp3
    refine ⟨(by show 3 ≤ sizeLine; decide), fun L2 hL2 => ?_⟩
    have s4 : Same H3 (upd H3 L2 (.lst [.str "a", .str "b", .str "n"])) := Same.new hL2
    refine ⟨_, rfl, p, c, _, ns, _, rfl, hp3.same s4, hlen, by decide, by decide, by omega, fun l H4 l0 l1 hp4 b4 => ?_⟩
    have g2 := b4 L2 (hp3.fresh hL2).1 _ (upd_same (o := .lst [.str "a", .str "b", .str "n"]) (H := H3) (a := L2))
    refine ⟨_, _, rfl, rfl, _, rfl, L2, _, rfl, SqL.of g2, fun A2 hA2 => ?_⟩
    have e2 : cutV ([.str "a", .str "b", .str "n"] : List V) none (some (1 + l)) = (allLetters.take (1 + l).toNat).map V.str := by
      rw [cut_take (by omega) (by show 1 + l ≤ 3; omega), List.map_take]
      rfl
    rw [e2]
    have lo1 : (allLetters.take (1 + l).toNat).length ≤ 3 := by
      rw [List.length_take]
      show min _ 3 ≤ 3
      omega
    have lo3 : ∀ x ∈ allLetters.take (1 + l).toNat, isLet x = true := fun x hx => allLetters_ok x (List.mem_of_mem_take hx)
    generalize allLetters.take (1 + l).toNat = ls at lo1 lo3
    have gA1' : (upd H4 A2 (.lst (ls.map V.str))) A1 = some (.lst (ss.map V.str)) := upd_new hA2 (b4 A1 nA1 _ (s4 _ _ gA1))
    have gA2 : (upd H4 A2 (.lst (ls.map V.str))) A2 = some (.lst (ls.map V.str)) := upd_same
    have nA2 : A2 ≠ p := (hp4.fresh hA2).1
    have hp5 := hp4.same (Same.new (u := .lst (ls.map V.str)) hA2)
    have b05 : But p H (upd H4 A2 (.lst (ls.map V.str))) := But.tr b02 (But.tr (But.of_same (s3.trans s4)) (But.tr b4 (But.of_same (Same.new hA2))))
    generalize upd H4 A2 (.lst (ls.map V.str)) = H5 at gA1' gA2 hp5 b05
    refine ⟨_, _, rfl, ?_⟩
    refine fun D hD Tl hTl => ⟨_, _, rfl, ?_⟩
    have s6 := (Same.new (u := .dT []) hD).trans (Same.new (u := .dK []) hTl)
    have gD : upd (upd H5 D (.dT [])) Tl (.dK []) D = some (.dT []) := upd_new hTl upd_same
    have gT : upd (upd H5 D (.dT [])) Tl (.dK []) Tl = some (.dK []) := upd_same
    have hT5 : H5 Tl = none := (Same.new (u := .dT []) hD).free hTl
    generalize upd (upd H5 D (.dT [])) Tl (.dK []) = H6 at s6 gD gT
    refine ⟨_, rfl, A1, rfl, ⟨_, SqL.of (s6 _ _ gA1')⟩, ?_⟩
    refine for_it (walk_list (K := K) (a := A1) (xs := ss.map V.str)) (fun i σ H' => ∃ (v6 v7 : Option V) (st : List StE) (tl : List (Str × Str)), σ = [some (.ref p), some (.int 4), some (.ref A1), some (.ref A2), some (.ref D), some (.ref Tl), v6, v7] ∧
      Lp K p c A1 A2 D Tl ns ss ls H5 H' (n + 2 + 14 * i) st tl ∧ st.length ≤ 4 * i ∧ tl.length ≤ i)
      ⟨_, _, [], [], rfl, ⟨(hp5.same s6).mono (by omega), But.of_same s6, s6 _ _ gA1', s6 _ _ gA2, ⟨[], gD, ⟨rfl, fun i e h => by cases h⟩, by simp⟩, gT, by simp, ⟨fun e he => (by cases he), fun e he => (by cases he)⟩⟩, by decide, by decide⟩
      (fun i σ H' _ h => by obtain ⟨_, _, _, _, _, h, _⟩ := h; exact SqL.of h.ga1) ?_ ?_
    · rintro i x σ G G' hi ⟨v6, v7, st, tl, rfl, lp, gl, gl2⟩ ⟨rfl, hx⟩
      rw [List.length_map] at hi
      rw [List.getElem?_map, List.getElem?_eq_getElem hi] at hx
      obtain rfl : V.str ss[i] = x := Option.some.inj hx
      have hmem : ss[i] ∈ ss := List.getElem_mem hi
      have hi6 : i < 4 := by omega
      generalize ss[i] = sn at hmem
      refine ⟨_, rfl, A2, rfl, ⟨_, SqL.of lp.ga2⟩, ?_⟩
      refine for_it (walk_list (K := K) (a := A2) (xs := ls.map V.str)) (fun j σ H' => ∃ (v7 : Option V) (st : List StE), σ = [some (.ref p), some (.int 4), some (.ref A1), some (.ref A2), some (.ref D), some (.ref Tl), some (.str sn), v7] ∧
        Lp K p c A1 A2 D Tl ns ss ls H5 H' (n + 2 + 14 * i + 3 * j) st tl ∧ st.length ≤ 4 * i + j)
        ⟨_, st, rfl, lp, gl⟩ (fun i σ H' _ h => by obtain ⟨_, _, _, h, _⟩ := h; exact SqL.of h.ga2) ?_ ?_
      · rintro j x σ G1 G2 hj ⟨v7, st1, rfl, lp1, gl1⟩ ⟨rfl, hx⟩
        rw [List.length_map] at hj
        rw [List.getElem?_map, List.getElem?_eq_getElem hj] at hx
        obtain rfl : V.str ls[j] = x := Option.some.inj hx
        have hmemL : ls[j] ∈ ls := List.getElem_mem hj
        have hj4 : j < 3 := by omega
        generalize ls[j] = ln at hmemL
        refine ⟨_, rfl, p, c, 5, ns, _, rfl, lp1.gp, hlen, by decide, by decide, by omega, fun r H6 r0 r1 gp6 b6 => ?_⟩
        have lp2 := lp1.draw nA1 nA2 gp6 b6
        refine ⟨_, _, rfl, rfl, _, rfl, ?_⟩
        refine ite2 (fun c1 => ?_) (fun c1 => ?_)
        · refine ⟨_, rfl, (by show 7 ≤ sizeLine; decide), fun L hL => ?_⟩
          have np7 : L ≠ p := (gp6.fresh hL).1
          have lp3 := lp2.same (Same.new (u := .lst [.str "", .str "x", .str "a", .str "xy", .str "", .str "abc", .str "wxyz"]) hL)
          refine ⟨p, c, L, _, ns, _, rfl, lp3.gp, hlen, upd_same, np7, (by show 0 < 7; decide), (by show 7 < 1000000; decide), by omega, fun v H8 hv gp8 b8 => ?_⟩
          have lp4 := lp3.draw nA1 nA2 gp8 b8
          obtain ⟨an, rfl, han⟩ : ∃ an : Str, v = .str an ∧ isAns an = true := by
            simp only [List.mem_cons, List.not_mem_nil, or_false] at hv
            rcases hv with rfl | rfl | rfl | rfl | rfl | rfl | rfl <;> exact ⟨_, rfl, ans_ok _ (by decide)⟩
          refine ⟨_, rfl, _, rfl, p, c, A1, _, ns, _, rfl, lp4.gp, hlen, lp4.ga1, nA1, by rw [List.length_map]; exact so2, by rw [List.length_map]; exact Nat.lt_of_le_of_lt so1 (by decide), by omega, fun v H9 hv2 gp9 b9 => ?_⟩
          have lp5 := lp4.draw nA1 nA2 gp9 b9
          obtain ⟨to, hto, rfl⟩ := List.mem_map.mp hv2
          refine ⟨(by show 2 ≤ sizeLine; decide), fun q hq => ?_⟩
          have lp6 := lp5.same (Same.new (u := .tup [.str an, .str to]) hq)
          have gq : upd H9 q (.tup [.str an, .str to]) q = some (.tup [.str an, .str to]) := upd_same
          generalize upd H9 q (.tup [.str an, .str to]) = H10 at lp6 gq
          refine ⟨_, rfl, _, rfl, _, rfl, (by show 2 ≤ sizeLine; decide), fun kt hkt => ?_⟩
          have s11 := Same.new (u := .tup [.str sn, .str ln]) hkt
          have lp7 := lp6.same s11
          have gq' := s11 _ _ gq
          have gk : upd H10 kt (.tup [.str sn, .str ln]) kt = some (.tup [.str sn, .str ln]) := upd_same
          generalize upd H10 kt (.tup [.str sn, .str ln]) = H11 at lp7 gq' gk
          obtain ⟨kvs, gD7, sk, nd7⟩ := lp7.gst.ex
          have lp8 := lp7.putS hD ((sn, ln), (an, to)) ⟨hmem, hmemL, han, hto⟩ gD7 sk nd7 (SqT.of gq')
          have hk24 : kvs.length ≤ 28 := by
            rw [sk.len]
            omega
          refine ⟨D, _, rfl, .inr ⟨kvs, stK ((sn, ln), (an, to)), kt, gD7, rfl, gk, Nat.lt_of_le_of_lt hk24 (by decide), rfl⟩, ?_⟩
          exact ⟨_, _, rfl, lp8.mono (by omega), by have := len_putSt st1 ((sn, ln), (an, to)); omega⟩
        · exact ⟨_, st1, rfl, lp2.mono (by omega), by omega⟩
      · rintro σ G1 ⟨v7, st1, rfl, lp1, gl1⟩
        rw [List.length_map] at gl1
        refine ⟨_, rfl, p, c, 5, ns, _, rfl, lp1.gp, hlen, by decide, by decide, by rw [List.length_map]; omega, fun r H6 r0 r1 gp6 b6 => ?_⟩
        have lp2 := (lp1.draw nA1 nA2 gp6 b6).mono (m := n + 2 + 14 * i + 11) (by rw [List.length_map]; omega)
        refine ⟨_, _, rfl, rfl, _, rfl, ?_⟩
        refine ite2 (fun c1 => ?_) (fun c1 => ?_)
        · refine ⟨_, rfl, (by show 5 ≤ sizeLine; decide), fun L hL => ?_⟩
          have np7 : L ≠ p := (gp6.fresh hL).1
          have lp3 := lp2.same (Same.new (u := .lst [.str "", .str "", .str "z", .str "yy", .str "qqq"]) hL)
          refine ⟨p, c, L, _, ns, _, rfl, lp3.gp, hlen, upd_same, np7, (by show 0 < 5; decide), (by show 5 < 1000000; decide), by omega, fun v H8 hv gp8 b8 => ?_⟩
          have lp4 := lp3.draw nA1 nA2 gp8 b8
          obtain ⟨an, rfl, han⟩ : ∃ an : Str, v = .str an ∧ isAns an = true := by
            simp only [List.mem_cons, List.not_mem_nil, or_false] at hv
            rcases hv with rfl | rfl | rfl | rfl | rfl <;> exact ⟨_, rfl, ans_ok _ (by decide)⟩
          have lp8 := lp4.putT hT5 (sn, an) ⟨hmem, han⟩
          refine ⟨_, rfl, _, rfl, Tl, _, rfl, .inl ⟨_, .inr sn, lp4.gtl, rfl, ?_, rfl⟩, ?_⟩
          · rw [List.length_map]
            exact Nat.lt_of_le_of_lt (show tl.length ≤ 6 by omega) (by decide)
          · exact ⟨_, _, st1, _, rfl, lp8.mono (by omega), by omega, by have := len_putTl tl (sn, an); omega⟩
        · exact ⟨_, _, st1, tl, rfl, lp2.mono (by omega), by omega, by omega⟩
    · rintro σ G ⟨v6, v7, st, tl, rfl, lp, gl, gl2⟩
      rw [List.length_map] at lp gl gl2
      refine fun DD hDD => ?_
      have lp1 := lp.same (Same.new (u := .dK []) hDD)
      have gDD : upd G DD (.dK []) DD = some (.dK []) := upd_same
      have nDD : DD ≠ p := (lp.gp.fresh hDD).1
      generalize upd G DD (.dK []) = G1 at lp1 gDD
      refine ⟨_, rfl, _, rfl, _, rfl, A1, _, rfl, SqL.of lp1.ga1, fun A3 hA3 => ?_⟩
      have lp2 := lp1.same (Same.new (u := .lst (cutV (ss.map V.str) none (some 2))) hA3)
      have c2 : (cutV (ss.map V.str) none (some 2)).length ≤ 1000 ∧ 0 < (cutV (ss.map V.str) none (some 2)).length ∧ ∀ v ∈ cutV (ss.map V.str) none (some 2), v ∈ ss.map V.str := by
        have q : cutV (ss.map V.str) none (some 2) = ((ss.map V.str).drop (HT.sIx (ss.map V.str).length 0 none)).take (HT.sIx (ss.map V.str).length (ss.map V.str).length (some ((2 : Nat) : Int)) - HT.sIx (ss.map V.str).length 0 none) := rfl
        rw [q, HT.sIx_nat, HT.sIx_none, List.drop_zero, Nat.sub_zero]
        refine ⟨?_, ?_, fun v hv => List.mem_of_mem_take hv⟩
        · rw [List.length_take, List.length_map]
          omega
        · rw [List.length_take, List.length_map]
          omega
      have gDD2 : upd G1 A3 (.lst (cutV (ss.map V.str) none (some 2))) DD = some (.dK []) := upd_new hA3 gDD
      refine ⟨p, c, A3, _, ns, _, rfl, lp2.gp, hlen, upd_same, (lp1.gp.fresh hA3).1, c2.2.1, by omega, by omega, fun v6 H6 hv6 gp6 b6 => ?_⟩
      have lp3 := lp2.draw nA1 nA2 gp6 b6
      obtain ⟨sn, hsn, rfl⟩ := List.mem_map.mp (c2.2.2 _ hv6)
      have gDD3 := b6 DD nDD _ gDD2
      refine ⟨_, rfl, _, rfl, gDD3, plD sn D Tl, rfl, (by show 3 ≤ 15; decide), ?_⟩
      rw [pl_merge]
      have lp4 := lp3.mono (m := n + 100) (by omega)
      have nT : Tl ≠ DD := fun z => by
        have := lp.gtl
        rw [z, hDD] at this
        cases this
      refine k DD sn st tl _ (lp4.gam.ok hsn so3 lo3 (by omega) (by omega) (by omega) (by omega)) ⟨D, Tl, upd_same, lp4.gst.updK gDD3, upd_oth nT lp4.gtl, lp4.gnd⟩ (lp4.gp.upd gDD3 (fun _ z => by cases z)) (fun b hb o eb => ?_) (by omega)
      have eG := lp.gb b hb _ (b05 b hb _ eb)
      exact upd_oth (fun z => by rw [z, hDD] at eG; cases eG) (lp4.gb b hb _ (b05 b hb _ eb))
end
end KC

namespace KC
open PySem L2 PyProof.Rows
/-- what a new converter needs -/
theorem make_ok {K : PySem.W.Frag} {mg : Str → Option Value} {G : Hp} {d t x dx : Addr} {s : Str} {st : List StE} {tl : List (Str × Str)} {Q : Hp → Prop} {E : XK} (hst : StAt K G d st) (ht : G t = some (.dK (tl.map tlKv))) (nd : (tl.map (·.1)).Nodup)
    (ok : OkParts s st tl) (hx : G x = none) (hdx : G dx = none) (ne : dx ≠ x) (k : ∀ H2, Same G H2 → CvAt K (gC mg) H2 x s st tl → Q H2) :
    spInit K (gC mg) [.ref x, .str s, .ref d, .ref t] (upd (upd G dx (.own x)) x (.ins (gC mg) dx [])) (fun v H2 => v = .non ∧ Q H2) E := by
  have s1 : Same G (upd (upd G dx (.own x)) x (.ins (gC mg) dx [])) := (Same.new hdx).trans (Same.new (by rw [upd_ne (Ne.symm ne)]; exact hx))
  refine ⟨x, dx, d, t, s, st, tl, rfl, upd_same, hst.same s1, s1 _ _ ht, nd, ok, fun H2 b cv => ⟨rfl, k H2 (fun a o e => b a (fun z => by rw [z, hx] at e; cases e) _ (s1 _ _ e)) cv⟩⟩
/-- the states of a way -/
def sts (s : Str) (ws : List (Str × Str)) : List Str := s :: ws.map (·.2)
theorem sts_snoc (s : Str) (ws : List (Str × Str)) (a to : Str) : sts s (ws ++ [(a, to)]) = sts s ws ++ [to] := by
  unfold sts
  rw [List.map_append]
  rfl
theorem Wk.last {st : List StE} {s e : Str} {cs : List Nat} {ws : List (Str × Str)} (h : Wk st s cs ws e) : (sts s ws).getLast? = some e := by
  induction h with
  | nil s => rfl
  | cons h1 _ ih =>
    rename_i s a to e c cs ws h2
    show (s :: sts to ws).getLast? = some e
    rw [List.getLast?_cons_of_ne_nil (by unfold sts; simp)]
    exact ih
theorem atI_lastS {xs : List Str} {v : Str} (h : xs.getLast? = some v) : atI (xs.map V.str) (-1) = some (.str v) := by
  obtain ⟨ys, rfl⟩ := List.getLast?_eq_some_iff.mp h
  rw [List.map_append]
  exact atI_last _ _
section
variable {P : Program} {w : World} {K : PySem.W.Frag} {mg : Str → Option Value} {base : Heap}
def spMade (K : PySem.W.Frag) (C : Addr) : Sp := fun vs H Q _ => ∃ (q : Addr) (s : Str) (st : List StE) (tl : List (Str × Str)), vs = [.ref q] ∧ PlAt K H q s st tl ∧ OkParts s st tl ∧ ∀ x H', Same H H' → CvAt K C H' x s st tl → Q (.ref x) H'
theorem kp_made (TM : TxM K mg) : Kf P w K mg base 8 "_law_made" ["_law_plan_here"] (spMade K (gC mg)) := by
  have TC := TM.C
  have T := TC.T
  refine T.d_lmade.okF sc_lmade (fun vs H Q E h => ?_) (fun f cdv A outer s H vs Q E hA hr h => ?_)
  · obtain ⟨q, s, st, tl, rfl, _⟩ := h
    rfl
  · obtain ⟨q, s, st, tl, rfl, ⟨d, t, hq, hst, ht, nd⟩, ok, k⟩ := h
    refine ⟨_, (pss_one (ps_ret (pe_kmkN (kp_init TM.C) hr rfl TM.C.mgC (pa_cons (pe_dget (hu_of hr) (pv 0) (pe_str) (fun _ _ => rfl)) (pa_cons (pe_dget (hu_of hr) (pv 0) (pe_str) (fun _ _ => rfl)) (pa_cons (pe_dget (hu_of hr) (pv 0) (pe_str) (fun _ _ => rfl)) pa_nil)))))), ?_⟩
    refine ⟨_, rfl, q, .str s, rfl, .inl ⟨_, .inr "start", .inl hq, rfl, (pl_start s d t).symm⟩, _, rfl, q, .ref d, rfl, .inl ⟨_, .inr "steps", .inl hq, rfl, (pl_steps s d t).symm⟩, _, rfl, q, .ref t, rfl, .inl ⟨_, .inr "tails", .inl hq, rfl, (pl_tails s d t).symm⟩, fun x dx hx hdx nxd => ?_⟩
    exact make_ok (K := K) (mg := mg) hst ht nd ok hx hdx nxd fun H2 s2 cv => k x H2 s2 cv
def spLRun (K : PySem.W.Frag) : Sp := fun vs H Q _ => ∃ (q : Addr) (z s : Str) (st : List StE) (tl : List (Str × Str)), vs = [.ref q, .str z] ∧ PlAt K H q s st tl ∧ OkParts s st tl ∧ isTxt z = true ∧
  ∀ (i : Nat) (w1 : List (Str × Str)) (e : Str) (L : Addr) H', Same H H' → H' L = some (.lst ((sts s w1).map V.str)) → w1.length = i → Wk st s (z.cps.toList.take i) w1 e → (i = z.length ∨ ∃ c, z.cps.toList[i]? = some c ∧ stepOf st e ⟨#[c]⟩ = none) → Q (.ref L) H'
theorem kp_run (T : Txt K mg) : Kf P w K mg base 1 "_law_run" ["_law_plan_here", "_law_text_here"] (spLRun K) := by
  refine T.d_lrun.okF sc_lrun (fun vs H Q E h => ?_) (fun f cdv A outer s H vs Q E hA hr h => ?_)
  · obtain ⟨q, z, s, st, tl, rfl, _⟩ := h
    rfl
  · obtain ⟨q, z, s0, st, tl, rfl, ⟨d, t, hq, hst, ht, nd⟩, ok, hT, k⟩ := h
    refine ⟨_, (pss_cons (ps_set (i := 2) sc_lrun.nd rfl (Or.inl rfl) (pe_lst (pa_cons (pe_dget (hu_of hr) (pv 0) (pe_str) (fun _ _ => rfl)) pa_nil)))
 (pss_cons (ps_for PassesOwn.never rfl (pi_str (pv 1)) (pg_name (i := 3) sc_lrun.nd rfl (Or.inl rfl))
 (pss_cons (ps_if (pt_cmp (pc_dnotin (hu_of hr) (pe_tup (pa_cons (pe_ix (ix_list : IxR _ (rIxL K)) (pv 2) (pe_un un_neg (pe_int)) (fun _ _ => rfl)) (pa_cons (pv 3) pa_nil))) (pe_dget (hu_of hr) (pv 0) (pe_str) (fun _ _ => rfl))))
 (pss_one (ps_ret (pv 2))) pss_nil)
 (pss_one (ps_set (i := 2) sc_lrun.nd rfl (Or.inl rfl) (pe_op op_cat (pv 2) (pe_lst (pa_cons (pe_ix (ix_tup : IxR _ (rIxT K)) (pe_dget (hu_of hr) (pe_dget (hu_of hr) (pv 0) (pe_str) (fun _ _ => rfl)) (pe_tup (pa_cons (pe_ix (ix_list : IxR _ (rIxL K)) (pv 2) (pe_un un_neg (pe_int)) (fun _ _ => rfl)) (pa_cons (pv 3) pa_nil))) (fun _ _ => rfl)) (pe_int) (fun _ _ => rfl)) pa_nil)))))))
 (pss_one (ps_ret (pv 2))))), ?_⟩
    have l4 : z.length ≤ 400 := okL_le hT
    have lz : z.cps.size = z.length := rfl
    obtain ⟨kvs, hd, hsk, ndk⟩ := hst
    refine ⟨_, rfl, q, .str s0, rfl, .inl ⟨_, .inr "start", .inl hq, rfl, (pl_start s0 d t).symm⟩, (by show 1 ≤ sizeLine; decide), fun A1 hA1 => ?_⟩
    have q1 : Same H (upd H A1 (.lst [.str s0])) := Same.new hA1
    have g1 : upd H A1 (.lst [.str s0]) A1 = some (.lst ((sts s0 []).map V.str)) := upd_same
    generalize upd H A1 (.lst [.str s0]) = H1 at q1 g1
    refine ⟨_, rfl, z, rfl, ?_⟩
    refine for_it (walk_str (z := z)) (fun i σ H' => ∃ (B : Addr) (v3 : Option V) (w1 : List (Str × Str)) (s' : Str),
      σ = [some (.ref q), some (.str z), some (.ref B), v3] ∧ Same H H' ∧ H' B = some (.lst ((sts s0 w1).map V.str)) ∧ w1.length = i ∧ Wk st s0 (z.cps.toList.take i) w1 s')
      ⟨A1, _, [], s0, rfl, q1, g1, rfl, by rw [List.take_zero]; exact .nil _⟩ (fun _ _ _ _ _ => True.intro) ?_ ?_
    · rintro i xv σ G0 H2 hi ⟨B, v3, w1, s', rfl, sm, gB, lw, wk⟩ ⟨rfl, cc, hc, rfl⟩
      have hcl : z.cps.toList[i]? = some cc := by rw [Array.getElem?_toList]; exact hc
      have tk : z.cps.toList.take (i + 1) = z.cps.toList.take i ++ [cc] := by
        rw [List.take_add_one, hcl]
        rfl
      have at5 := atI_lastS wk.last
      refine ⟨_, rfl, _, rfl, B, _, -1, .str s', rfl, rfl, SqL.of gB, at5, _, rfl, (by show 2 ≤ sizeLine; decide), fun kt hkt => ?_⟩
      have q2 : Same H2 (upd H2 kt (.tup [.str s', .str ⟨#[cc]⟩])) := Same.new hkt
      have hk : upd H2 kt (.tup [.str s', .str ⟨#[cc]⟩]) kt = some (.tup [.str s', .str ⟨#[cc]⟩]) := upd_same
      have sm2 := sm.trans q2
      have gB := q2 _ _ gB
      generalize upd H2 kt (.tup [.str s', .str ⟨#[cc]⟩]) = H3 at q2 hk sm2 gB
      refine ⟨_, rfl, q, .ref d, rfl, .inl ⟨_, .inr "steps", .inl (sm2 _ _ hq), rfl, (pl_steps s0 d t).symm⟩, ?_⟩
      refine ⟨d, _, rfl, .inr ⟨kvs, [.inr s', .inr ⟨#[cc]⟩], kt, .inl (sm2 _ _ hd), rfl, hk, rfl⟩, ?_⟩
      rcases (hsk.same sm2).get ndk s' ⟨#[cc]⟩ with ⟨e1, e2⟩ | ⟨a, to, qa, e1, e2, e3⟩
      · rw [e2]
        refine ⟨_, rfl, iteT ?_⟩
        exact ⟨_, rfl, k i w1 s' B H3 sm2 gB lw wk (.inr ⟨cc, hcl, e1⟩)⟩
      · rw [e2]
        refine ⟨_, rfl, iteF ?_⟩
        refine ⟨_, rfl, _, rfl, q, .ref d, rfl, .inl ⟨_, .inr "steps", .inl (sm2 _ _ hq), rfl, (pl_steps s0 d t).symm⟩, _, rfl, _, rfl, B, _, -1, .str s', rfl, rfl, SqL.of gB, at5, _, rfl, (by show 2 ≤ sizeLine; decide), fun kt2 hkt2 => ?_⟩
        have q4 : Same H3 (upd H3 kt2 (.tup [.str s', .str ⟨#[cc]⟩])) := Same.new hkt2
        have hk2 : upd H3 kt2 (.tup [.str s', .str ⟨#[cc]⟩]) kt2 = some (.tup [.str s', .str ⟨#[cc]⟩]) := upd_same
        have sm3 := sm2.trans q4
        have gB := q4 _ _ gB
        have e3 := e3.ext q4
        generalize upd H3 kt2 (.tup [.str s', .str ⟨#[cc]⟩]) = H4 at q4 hk2 sm3 gB e3
        refine ⟨d, .ref qa, rfl, .inr ⟨kvs, [.inr s', .inr ⟨#[cc]⟩], kt2, .inl (sm3 _ _ hd), rfl, hk2, e2.symm⟩, ?_⟩
        refine ⟨qa, _, 1, .str to, rfl, rfl, e3, rfl, (by show 1 ≤ sizeLine; decide), fun l1 hl1 => ?_⟩
        have q5 : Same H4 (upd H4 l1 (.lst [.str to])) := Same.new hl1
        have n5 : upd H4 l1 (.lst [.str to]) l1 = some (.lst [.str to]) := upd_same
        have sm4 := sm3.trans q5
        have gB := q5 _ _ gB
        generalize upd H4 l1 (.lst [.str to]) = H5 at q5 n5 sm4 gB
        have sl : (sts s0 w1).length = i + 1 := by
          unfold sts
          rw [List.length_cons, List.length_map, lw]
        refine ⟨B, l1, _, _, rfl, rfl, gB, n5, ?_, fun C5 hC5 => ?_⟩
        · rw [List.length_map, sl]
          show i + 1 + 1 ≤ sizeLine
          exact Nat.le_trans (show _ ≤ 1000 by omega) (by decide)
        refine ⟨C5, _, w1 ++ [(a, to)], to, rfl, sm4.trans (Same.new hC5), ?_, by rw [List.length_append, lw]; rfl, by rw [tk]; exact wk.snoc e1⟩
        rw [upd_same, sts_snoc, List.map_append]
        rfl
    · rintro σ H' ⟨B, v3, w1, s', rfl, sm, gB, lw, wk⟩
      exact ⟨_, rfl, k z.cps.size w1 s' B H' sm gB lw wk (.inl rfl)⟩
end
end KC

namespace KC
open PySem L2 PyProof.Rows
theorem ok_ofString (x : String) : PyData.strOk (Str.ofString x) = true := by
  rw [Str.ofString_eq_toList]
  unfold PyData.strOk
  rw [← Array.all_toList, List.all_eq_true]
  intro c hc
  simp only [List.mem_map] at hc
  obtain ⟨k, _, rfl⟩ := hc
  have := k.valid
  refine decide_eq_true ?_
  rcases this with h | ⟨_, h⟩
  · exact Nat.lt_trans h (by decide)
  · exact h
theorem ok_abc : ∀ c ∈ abc.cps.toList, c < 1114112 ∧ ∀ q ∈ ([34, 39] : List Nat), (Builtin.Str.reprChar q c).all (fun c => decide (c < 1114112)) = true := by decide +kernel
theorem ok_fold (q : Nat) (hq : q ∈ ([34, 39] : List Nat)) : ∀ (l : List Nat) (acc : Array Nat), (∀ c ∈ l, c ∈ abc.cps.toList) → acc.toList.all (fun c => decide (c < 1114112)) = true →
    (l.foldl (fun out c => out ++ (Builtin.Str.reprChar q c).toArray) acc).toList.all (fun c => decide (c < 1114112)) = true
  | [], acc, _, h => h
  | c :: r, acc, hl, h => by
    rw [List.foldl_cons]
    refine ok_fold q hq r _ (fun d hd => hl d (List.mem_cons_of_mem _ hd)) ?_
    rw [Array.toList_append, List.all_append, h, (ok_abc c (hl c List.mem_cons_self)).2 q hq]
    rfl
theorem ok_repr {lo hi : Nat} {x : Str} (h : okL lo hi x = true) : PyData.strOk (reprText x) = true := by
  have hx : ∀ c ∈ x.cps.toList, c ∈ abc.cps.toList := by
    unfold okL at h
    simp only [Bool.and_eq_true, List.all_eq_true, decide_eq_true_eq] at h
    exact h.2.2
  have hq : reprQuote x ∈ ([34, 39] : List Nat) := by
    unfold reprQuote
    split <;> decide
  have hq2 : decide (reprQuote x < 1114112) = true := by
    unfold reprQuote
    split <;> rfl
  unfold PyData.strOk reprText
  rw [← Array.all_toList, Array.toList_push, List.all_append, ← Array.foldl_toList]
  have := ok_fold (reprQuote x) hq x.cps.toList #[reprQuote x] hx (by simp only [List.all_cons, List.all_nil, Bool.and_true]; exact hq2)
  rw [this]
  simp only [List.all_cons, List.all_nil, Bool.and_true]
  exact hq2
theorem ok_let {lo hi : Nat} {x : Str} (h : okL lo hi x = true) : PyData.strOk x = true := by
  unfold okL at h
  simp only [Bool.and_eq_true, List.all_eq_true, decide_eq_true_eq] at h
  unfold PyData.strOk
  rw [← Array.all_toList, List.all_eq_true]
  exact fun c hc => decide_eq_true (ok_abc c (h.2.2 c hc)).1
theorem ok_app {x y : Str} (h1 : PyData.strOk x = true) (h2 : PyData.strOk y = true) : PyData.strOk (x ++ y) = true := by
  unfold PyData.strOk at *
  rw [← Array.all_toList] at *
  show ((x.cps ++ y.cps).toList).all _ = true
  rw [Array.toList_append, List.all_append, h1, h2]
  rfl
theorem dp_strs {K : PySem.W.Frag} {H : Hp} : ∀ ts : List Str, DpAll K H (ts.map V.str) (ts.map PyData.str)
  | [] => .nil
  | x :: ts => .cons (.str x) (dp_strs ts)
theorem can_strs : ∀ ts : List Str, ts.all PyData.strOk = true → PyData.canLayAll0 (ts.map PyData.str) = true
  | [], _ => by simp [PyData.canLayAll0]
  | x :: ts, h => by
    simp only [List.all_cons, Bool.and_eq_true] at h
    simp [PyData.canLayAll0, PyData.canLay0, h.1, can_strs ts h.2]
theorem dep_strs : ∀ ts : List Str, PyData.depthAll (ts.map PyData.str) ≤ 1
  | [] => by simp [PyData.depthAll]
  | x :: ts => by
    have := dep_strs ts
    simp [PyData.depthAll, PyData.depth]
    omega
theorem eqv_strs : ∀ ts : List Str, PyData.eqvAll (ts.map PyData.str) (ts.map PyData.str) = true
  | [] => by simp [PyData.eqvAll]
  | x :: ts => by simp [PyData.eqvAll, PyData.eqv, eqv_strs ts]
theorem shaped_lst {zs : List Str} (h : ∀ y ∈ zs, PyData.strOk y = true) : SeqAt.shaped (.list (zs.map PyData.str)) = true := by
  have h1 := dep_strs zs
  have h2 := can_strs zs (List.all_eq_true.mpr h)
  simp [SeqAt.shaped, PyData.canLay0, PyData.depth, h2]
  omega
theorem eqv_nilS (xs : List Str) : PyData.eqv (.list (xs.map PyData.str)) (.list []) = xs.isEmpty := by
  rw [eqv_nil]
  cases xs <;> rfl
end KC

namespace KC
open PySem L2 PyProof.Rows
theorem txt_snoc {z y : Str} (h : isTxt z = true) (hy : isLet y = true) (hn : z.length < 100) : isTxt (z ++ y) = true ∧ (z ++ y).length = z.length + 1 := by
  have ly : y.length = 1 := by
    unfold isLet okL at hy
    simp only [Bool.and_eq_true, decide_eq_true_eq] at hy
    omega
  have l2 : (z ++ y).length = z.length + 1 := by rw [strLen_append, ly]
  refine ⟨?_, l2⟩
  unfold isTxt okL at h ⊢
  unfold isLet okL at hy
  simp only [Bool.and_eq_true, decide_eq_true_eq, List.all_eq_true] at h hy ⊢
  refine ⟨Nat.zero_le _, by omega, fun c hc => ?_⟩
  have e : (z ++ y).cps.toList = z.cps.toList ++ y.cps.toList := by
    show (z.cps ++ y.cps).toList = _
    exact Array.toList_append
  rw [e] at hc
  rcases List.mem_append.mp hc with hc | hc
  · exact h.2.2 c hc
  · exact hy.2.2 c hc
def qLetters : List Str := ["a", "b", "n", "q"]
theorem qLetters_ok : ∀ x ∈ qLetters, isLet x = true := by decide +kernel
/-- a letter is picked -/
theorem pick_letter {K : PySem.W.Frag} {σ : L2.St} {H : Hp} {p c D : Addr} {ns : List Int} {n : Nat} {xs : List Str} {Kf : VK} (h0 : σ[0]? = some (some (.ref p))) (h6 : σ[6]? = some (some (.ref D))) (hp : PenAt H p c ns n) (hlen : ns.length ≤ 63) (hn : n < 999000)
    (gD : H D = some (.lst (xs.map V.str))) (nD : D ≠ p) (lx : xs.length ≤ 100) (hxs : ∀ x ∈ xs, isLet x = true) (k : ∀ (y : Str) H', isLet y = true → PenAt H' p c ns (n + 2) → But p H H' → Kf (.str y) H') :
    (tIf (tAnd (tTest (tOp (rNeD K) (tVar 6) (tLst tNil))) (tTest (tOp (rI0 fun i j => V.bl (decide (j < i))) (tCall spDraw [] E0 (tCons (tVar 0) (tCons (tC (V.int 12)) tNil))) (tC (V.int 0)))))
      (tCall spPick [] E0 (tCons (tVar 0) (tCons (tVar 6) tNil)))
      (tCall spPick [] E0 (tCons (tVar 0) (tCons (tLst (tCons (tC (V.str (Str.ofString "a"))) (tCons (tC (V.str (Str.ofString "b"))) (tCons (tC (V.str (Str.ofString "n"))) (tCons (tC (V.str (Str.ofString "q"))) tNil))))) tNil)))) σ H Kf := by
  have other : ∀ (H1 : Hp) (m : Nat), m ≤ n + 1 → PenAt H1 p c ns m → But p H H1 → (tCall spPick [] E0 (tCons (tVar 0) (tCons (tLst (tCons (tC (V.str (Str.ofString "a"))) (tCons (tC (V.str (Str.ofString "b"))) (tCons (tC (V.str (Str.ofString "n"))) (tCons (tC (V.str (Str.ofString "q"))) tNil))))) tNil))) σ H1 Kf := by
    intro H1 m hm hp1 b1
    refine ⟨_, h0, (by show 4 ≤ sizeLine; decide), fun L hL => ?_⟩
    have s1 : Same H1 (upd H1 L (.lst (qLetters.map V.str))) := Same.new hL
    refine ⟨p, c, L, qLetters.map V.str, ns, m, rfl, hp1.same s1, hlen, upd_same, (hp1.fresh hL).1, (by show 0 < 4; decide), (by show 4 < 1000000; decide), by omega, fun v H2 hv gp2 b2 => ?_⟩
    obtain ⟨y, hy, rfl⟩ := List.mem_map.mp hv
    exact k y H2 (qLetters_ok y hy) (gp2.mono (by omega)) (But.tr b1 (But.tr (But.of_same s1) b2))
  refine ⟨_, h6, (by show 0 ≤ sizeLine; decide), fun L0 hL0 => ?_⟩
  have s1 : Same H (upd H L0 (.lst [])) := Same.new hL0
  have hp1 := hp.same s1
  have gD1 := s1 _ _ gD
  have b1 : But p H (upd H L0 (.lst [])) := But.of_same s1
  refine ⟨_, _, .lst (SqL.of gD1) (dp_strs xs), .lst (SqL.of upd_same) .nil, shaped_lst fun y hy => ok_let (hxs y hy), rfl, _, rfl, ?_⟩
  rw [eqv_nilS]
  generalize upd H L0 (.lst []) = H1 at hp1 gD1 b1
  cases hx : xs with
  | nil => exact iteF (iteF (other H1 n (by omega) hp1 b1))
  | cons x0 xr =>
    refine iteT ?_
    refine ⟨_, h0, p, c, _, ns, _, rfl, hp1, hlen, by decide, by decide, by omega, fun r H2 r0 r1 gp2 b2 => ?_⟩
    refine ⟨_, _, rfl, rfl, _, rfl, ?_⟩
    refine ite2 (fun c1 => ?_) (fun c1 => ?_)
    · refine ⟨_, h0, _, h6, p, c, D, _, ns, _, rfl, gp2, hlen, b2 D nD _ gD1, nD, ?_, ?_, by omega, fun v H3 hv gp3 b3 => ?_⟩
      · rw [List.length_map, hx]
        simp
      · rw [List.length_map]
        omega
      · obtain ⟨y, hy, rfl⟩ := List.mem_map.mp hv
        exact k y H3 (hxs y hy) gp3 (But.tr b1 (But.tr b2 b3))
    · exact other H2 (n + 1) (by omega) gp2 (But.tr b1 b2)
section
variable {P : Program} {w : World} {K : PySem.W.Frag} {mg : Str → Option Value} {base : Heap}
def spLText (K : PySem.W.Frag) : Sp := fun vs H Q _ => ∃ (p c q : Addr) (ns : List Int) (n : Nat) (s : Str) (st : List StE) (tl : List (Str × Str)), vs = [.ref p, .ref q, .int 20] ∧ PenAt H p c ns n ∧ ns.length ≤ 63 ∧ n < 900000 ∧ PlAt K H q s st tl ∧ OkParts s st tl ∧ st.length ≤ 30 ∧
  ∀ (z : Str) (H' : Hp), isTxt z = true → z.length ≤ 20 → PenAt H' p c ns (n + 50) → But p H H' → Q (.str z) H'
theorem kp_ltext (T : Txt K mg) : Kf P w K mg base 3 "_law_text" ["_law_pen_here", "_law_plan_here", "_law_most"] (spLText K) := by
  refine T.d_ltext.okF sc_ltext (fun vs H Q E h => ?_) (fun f cdv A outer s H vs Q E hA hr h => ?_)
  · obtain ⟨p, c, q, ns, n, s, st, tl, rfl, _⟩ := h
    rfl
  · obtain ⟨p, c, q, ns, n, s0, st, tl, rfl, hp, hlen, hn, pl, ok, l30, k⟩ := h
    refine ⟨_, (pss_cons (ps_asg (pe_tup (pa_cons (pe_str) (pa_cons (pe_dget (hu_of hr) (pv 1) (pe_str) (fun _ _ => rfl)) pa_nil))) (pg_tup rfl (pgs_cons (pg_name (i := 3) sc_ltext.nd rfl (Or.inl rfl)) (pgs_cons (pg_name (i := 4) sc_ltext.nd rfl (Or.inr rfl)) pgs_nil))))
 (pss_cons (ps_for PassesOwn.never rfl (pi_range1 (by rfl) (T.nb _ (by decide)) (pa_cons (pe_kf (kp_draw T) hA hr (by rfl) (pa_cons (pv 0) (pa_cons (pe_op op_add (pv 2) (pe_int)) pa_nil))) pa_nil)) (pg_name (i := 5) sc_ltext.nd rfl (Or.inl rfl))
 (pss_cons (ps_lock (ps_setLc (i := 6) (own := [("_law_key", 8)]) (g := gName 8) rfl sc_ltext.nd rfl rfl (sw_true rfl rfl rfl (by decide +kernel)) (pi_keys (pe_dget (hu_of hr) (pv 1) (pe_str) (fun _ _ => rfl))) (blkOk_by (N := n_ltext) (sc := defScope s_ltext) (by decide +kernel)) (fun _ _ _ _ _ => pg_name (i := 8) sc_ltext.nd rfl (Or.inl rfl)) (fun _ _ _ _ _ => (pts_one (pt_cmpR op_eq (pe_ix (ix_tup : IxR _ (rIxT K)) (pv 8) (pe_int) (fun _ _ => rfl)) (pv 4) (nomark _)))) (fun _ _ _ _ _ => (pe_ix (ix_tup : IxR _ (rIxT K)) (pv 8) (pe_int) (fun _ _ => rfl)))))
 (pss_cons (ps_set (i := 7) sc_ltext.nd rfl (Or.inl rfl) (pe_ifExp (PW.pt (pw_and (pt_cmpR (op_neD hr.units) (pv 6) (pe_lst pa_nil) (nomark _)) (pw_and1 (pt_cmpR op_gt (pe_kf (kp_draw T) hA hr (by rfl) (pa_cons (pv 0) (pa_cons (pe_int) pa_nil))) (pe_int) (nomark _))))) (pe_kf (kp_pick T) hA hr (by rfl) (pa_cons (pv 0) (pa_cons (pv 6) pa_nil))) (pe_kf (kp_pick T) hA hr (by rfl) (pa_cons (pv 0) (pa_cons (pe_lst (pa_cons (pe_str) (pa_cons (pe_str) (pa_cons (pe_str) (pa_cons (pe_str) pa_nil))))) pa_nil)))))
 (pss_cons (ps_set (i := 3) sc_ltext.nd rfl (Or.inl rfl) (pe_op op_add_str (pv 3) (pv 7)))
 (pss_one (ps_set (i := 4) sc_ltext.nd rfl (Or.inr rfl) (pe_ifExp (pt_cmp (pc_din (hu_of hr) (pe_tup (pa_cons (pv 4) (pa_cons (pv 7) pa_nil))) (pe_dget (hu_of hr) (pv 1) (pe_str) (fun _ _ => rfl)))) (pe_ix (ix_tup : IxR _ (rIxT K)) (pe_dget (hu_of hr) (pe_dget (hu_of hr) (pv 1) (pe_str) (fun _ _ => rfl)) (pe_tup (pa_cons (pv 4) (pa_cons (pv 7) pa_nil))) (fun _ _ => rfl)) (pe_int) (fun _ _ => rfl)) (pv 4))))))))
 (pss_one (ps_ret (pv 3))))), ?_⟩
    obtain ⟨d, t, hq, _⟩ := id pl
    refine ⟨_, rfl, q, .str s0, rfl, .inl ⟨_, .inr "start", .inl hq, rfl, (pl_start s0 d t).symm⟩, (by show 2 ≤ sizeLine; decide), fun A1 hA1 => ⟨A1, _, rfl, SqT.of upd_same, rfl, _, _, rfl, _, _, rfl, rfl, ?_⟩⟩
    have s1 : Same H (upd H A1 (.tup [.str "", .str s0])) := Same.new hA1
    have hp1 := hp.same s1
    have pl1 := pl.same s1
    have b1 : But p H (upd H A1 (.tup [.str "", .str s0])) := But.of_same s1
    generalize upd H A1 (.tup [.str "", .str s0]) = H1 at hp1 pl1 b1
    refine ⟨_, rfl, _, rfl, _, _, rfl, rfl, p, c, _, ns, _, rfl, hp1, hlen, by decide, by decide, by omega, fun m H2 m0 m1 hp2 b2 => ?_⟩
    refine ⟨_, rfl, by omega, by omega, ?_⟩
    have pl2 := pl1.but hp1.lst b2
    refine for_it (walk_range (lo := 0) (n := m.toNat)) (fun i σ H' => ∃ (z s' : Str) (v5 v6 v7 : Option V), σ = [some (.ref p), some (.ref q), some (.int 20), some (.str z), some (.str s'), v5, v6, v7, none] ∧
      isTxt z = true ∧ z.length = i ∧ PenAt H' p c ns (n + 1 + 2 * i) ∧ PlAt K H' q s0 st tl ∧ But p H H')
      ⟨"", s0, _, _, _, rfl, by decide +kernel, rfl, hp2, pl2, But.tr b1 b2⟩ (fun _ _ _ _ _ => True.intro) ?_ ?_
    · rintro i xv σ G0 G hi ⟨z, s', v5, v6, v7, rfl, hz, zl, gp, pl, gb⟩ ⟨rfl, ex⟩
      have hi20 : i < 20 := by omega
      obtain ⟨d, t, hq, hst, ht, nd⟩ := id pl
      obtain ⟨kvs, hd, hsk, ndk⟩ := id hst
      refine ⟨d, _, hd, trivial, fun od => ?_⟩
      have hl : upd G d (.frz od (.dT kvs)) d = some (.frz od (.dT kvs)) := upd_same
      have hsk' := hsk.lock (o := od) hd
      have hqd : q ≠ d := fun z => by rw [z, hd] at hq; cases hq
      have hq' : upd G d (.frz od (.dT kvs)) q = some (.dK (plD s0 d t)) := upd_oth hqd hq
      generalize hHL : upd G d (.frz od (.dT kvs)) = HL at hl hsk' hq'
      refine ⟨_, rfl, q, .ref d, rfl, .inl ⟨_, .inr "steps", .inl hq', rfl, (pl_steps s0 d t).symm⟩, d, od, rfl, .inr ⟨kvs, hl, fun D hD => ?_⟩⟩
      refine lc_it (walk_keysT (d := d) (o := od) (kvs := kvs)) (fun i H' => Same HL H' ∧ ∃ xs : List Str, H' D = some (.lst (xs.map V.str)) ∧ xs.length ≤ i ∧ ∀ x ∈ xs, isLet x = true) ⟨Same.new hD, [], upd_same, Nat.le_refl _, fun x hx => (by cases hx)⟩ (fun i H' _ p => p.1 _ _ hl) ?_ ?_
      · rintro j x H1 H2 hj ⟨sm, xs, gD, lx, hxs⟩ ⟨rfl, k0, v0, kq, e0, rfl, hkq⟩
        have hj' : j < st.length := by rw [hsk.len] at hj; exact hj
        obtain ⟨e, he⟩ : ∃ e, st[j]? = some e := ⟨_, List.getElem?_eq_getElem hj'⟩
        obtain ⟨qv, h1, h2⟩ := (hsk'.same sm).2 j e he
        rw [h1] at e0
        obtain ⟨rfl, rfl⟩ := Prod.mk.inj (Option.some.inj e0)
        have hkq' : H2 kq = some (.tup [.str e.1.1, .str e.1.2]) := hkq
        have hle := (ok.ost e (List.mem_of_getElem? he)).2.1
        refine ⟨rfl, ?_⟩
        refine ⟨_, rfl, kq, _, 0, .str e.1.1, rfl, rfl, SqT.of hkq', rfl, _, rfl, rfl, _, rfl, ?_⟩
        refine ite2 (fun c1 => ?_) (fun c1 => ?_)
        · refine ⟨_, rfl, kq, _, 1, .str e.1.2, rfl, rfl, SqT.of hkq', rfl, xs.map V.str, gD, ?_, ?_, xs ++ [e.1.2], ?_, ?_, ?_⟩
          · rw [List.length_map]
            exact Nat.lt_of_lt_of_le (show xs.length < 400 by omega) (by decide)
          · exact fun b o eb => upd_oth (fun z => by rw [z, hD] at eb; cases eb) (sm _ _ eb)
          · rw [upd_same, List.map_append]
            rfl
          · rw [List.length_append]
            show xs.length + 1 ≤ j + 1
            omega
          · intro y hy
            rcases List.mem_append.mp hy with h | h
            · exact hxs y h
            · rw [List.mem_singleton.mp h]
              exact hle
        · exact ⟨sm, xs, gD, by omega, hxs⟩
      · rintro H1 ⟨sm, xs, gD, lx, hxs⟩
        have nDd : D ≠ d := fun z => by rw [z, hl] at hD; cases hD
        refine ⟨sm _ _ hl, ?_⟩
        have sU : Same G (upd H1 d (.dT kvs)) := unlock_same (u' := .frz od (.dT kvs)) hd (by rw [hHL]; exact sm)
        have gDU : upd H1 d (.dT kvs) D = some (.lst (xs.map V.str)) := upd_oth nDd gD
        generalize upd H1 d (.dT kvs) = GU at sU gDU
        have nDp : D ≠ p := by
          intro z
          obtain ⟨ys, ey⟩ := gp.lst
          have : HL p = some (.lst ys) := by
            rw [← hHL]
            exact upd_oth (fun z => by rw [z, hd] at ey; cases ey) ey
          rw [z, this] at hD
          cases hD
        have gpU := gp.same sU
        have plU := pl.same sU
        refine pick_letter (K := K) rfl rfl gpU hlen (by omega) gDU nDp (by rw [hsk.len] at lx; omega) hxs fun y G4 hy gp4 b4 => ?_
        have pl4 := plU.but gpU.lst b4
        have gb4 := But.tr gb (But.tr (But.of_same sU) b4)
        obtain ⟨hz2, zl2⟩ := txt_snoc hz hy (by omega)
        have ly : y.length ≤ 1 := okL_le hy
        refine ⟨_, rfl, _, rfl, z, y, rfl, rfl, Nat.le_trans (show z.length + y.length ≤ 100 by omega) (by decide), ?_⟩
        obtain ⟨d2, t2, hq2, ⟨kv2, hd2, hsk2, ndk2⟩, _, _⟩ := id pl4
        refine ⟨_, rfl, _, rfl, (by show 2 ≤ sizeLine; decide), fun kt hkt => ?_⟩
        have q2 : Same G4 (upd G4 kt (.tup [.str s', .str y])) := Same.new hkt
        have hk : upd G4 kt (.tup [.str s', .str y]) kt = some (.tup [.str s', .str y]) := upd_same
        generalize upd G4 kt (.tup [.str s', .str y]) = G5 at q2 hk
        refine ⟨_, rfl, q, .ref d2, rfl, .inl ⟨_, .inr "steps", .inl (q2 _ _ hq2), rfl, (pl_steps s0 d2 t2).symm⟩, ?_⟩
        refine ⟨d2, _, rfl, .inr ⟨kv2, [.inr s', .inr y], kt, .inl (q2 _ _ hd2), rfl, hk, rfl⟩, ?_⟩
        rcases (hsk2.same q2).get ndk2 s' y with ⟨e1, e2⟩ | ⟨a, to, qa, e1, e2, e3⟩
        · rw [e2]
          refine ⟨_, rfl, iteF ?_⟩
          exact ⟨_, rfl, z ++ y, s', _, _, _, rfl, hz2, by omega, (gp4.same q2).mono (by omega), pl4.same q2, But.tr gb4 (But.of_same q2)⟩
        · rw [e2]
          refine ⟨_, rfl, iteT ?_⟩
          refine ⟨_, rfl, q, .ref d2, rfl, .inl ⟨_, .inr "steps", .inl (q2 _ _ hq2), rfl, (pl_steps s0 d2 t2).symm⟩, _, rfl, _, rfl, (by show 2 ≤ sizeLine; decide), fun kt2 hkt2 => ?_⟩
          have q4 : Same G5 (upd G5 kt2 (.tup [.str s', .str y])) := Same.new hkt2
          have hk2 : upd G5 kt2 (.tup [.str s', .str y]) kt2 = some (.tup [.str s', .str y]) := upd_same
          have e3 := e3.ext q4
          generalize upd G5 kt2 (.tup [.str s', .str y]) = G6 at q4 hk2 e3
          have q24 := q2.trans q4
          refine ⟨d2, .ref qa, rfl, .inr ⟨kv2, [.inr s', .inr y], kt2, .inl (q24 _ _ hd2), rfl, hk2, e2.symm⟩, ?_⟩
          refine ⟨qa, _, 1, .str to, rfl, rfl, e3, rfl, ?_⟩
          exact ⟨z ++ y, to, _, _, _, rfl, hz2, by omega, (gp4.same q24).mono (by omega), pl4.same q24, But.tr gb4 (But.of_same q24)⟩
    · rintro σ G ⟨z, s', v5, v6, v7, rfl, hz, zl, gp, pl, gb⟩
      exact ⟨_, rfl, k z G hz (by omega) (gp.mono (by omega)) gb⟩
end
end KC

namespace KC
open PySem L2 PyProof.Rows
/-- the errors that the law tells apart -/
def hNames : List Str := ["NoStep", "NoTail", "BadWord", "BadNumber", "BadConverter", "NoText"]
structure TxH (K : PySem.W.Frag) (mg : Str → Option Value) : Prop where
  T : Txt K mg
  mgh : mg "HeadError" = some (.ref (adr mg "HeadError"))
  mgc : ∀ x ∈ hNames, mg x = some (.ref (adr mg x))
  cl : ∀ x ∈ hNames, XCl K (adr mg x)
  na : ∀ x ∈ hNames, ∀ f ∈ (["value", "at", "state", "part"] : List Str), PySem.W.findIn K (.ref (adr mg x)) f = some none
  kit : ∀ x ∈ hNames, ∀ y ∈ hNames, PySem.W.kitOne K (.ref (adr mg x)) (.ref (adr mg y)) = some (decide (x = y))
  ex : ∀ x ∈ hNames, PySem.W.exmOne K (.ref (adr mg x)) (.ref (adr mg "HeadError")) = some true
theorem TxH.kit2 {K : PySem.W.Frag} {mg : Str → Option Value} (TH : TxH K mg) {x y z : Str} (hx : x ∈ hNames) (hy : y ∈ hNames) (hz : z ∈ hNames) : PySem.W.kitAny K (.ref (adr mg x)) [.ref (adr mg y), .ref (adr mg z)] = some (decide (x = y) || decide (x = z)) := by
  unfold PySem.W.kitAny
  rw [TH.kit x hx y hy]
  cases decide (x = y) with
  | true => rfl
  | false =>
    unfold PySem.W.kitAny
    rw [TH.kit x hx z hz]
    cases decide (x = z) <;> rfl
/-- what is shown of v wherever the heap goes -/
def ShwE (K : PySem.W.Frag) (H : Hp) (v : V) (t : Str) : Prop := ∀ H', Same H H' → Shw K H' v t
/-- a new tuple -/
def OutV (xs : List V) (H : Hp) (Q : VK) : Prop := ∀ T H', H T = none → Same H H' → H' T = some (.tup xs) → Q (.ref T) H'
/-- what the law makes of an error -/
def EEh (K : PySem.W.Frag) (mg : Str → Option Value) (Q : VK) : XK := fun cls d H => ∃ (x : Str) (dd : Addr) (fs : List (Str × V)),
  cls = .ref (adr mg x) ∧ d = some dd ∧ H dd = some (.xd fs) ∧
  ((x = "NoStep" ∧ ∃ v v2, fs.lookup ("at" : Str) = some v ∧ fs.lookup ("state" : Str) = some v2 ∧ OutV [.str "step", v, v2] H Q) ∨
   (x = "BadWord" ∧ ∃ v t, fs.lookup ("value" : Str) = some v ∧ ShwE K H v t ∧ OutV [.str "word", .str t] H Q) ∨
   (x = "BadConverter" ∧ ∃ v, fs.lookup ("part" : Str) = some v ∧ OutV [.str "converter", v] H Q))
/-- what hearing a call makes of it -/
def TTh (K : PySem.W.Frag) (mg : Str → Option Value) : (XK → Hp → VK → Prop) → Hp → VK → Prop := fun tl H Q =>
  ∀ (H' : Hp) (R : VK), Same H H' →
    (∀ v H1, (∀ L H2, H1 L = none → Same H1 H2 → H2 L = some (.lst [v]) → Q (.ref L) H2) → R v H1) → tl (EEh K mg Q) H' R
/-- the statements of the first try of a block -/
def tryBody : List Stmt → List Stmt
  | [] => []
  | .Try b _ _ _ _ :: _ => b
  | _ :: r => tryBody r
/-- the try's body -/
def tbH (f c' : Addr) (q : Str) (tl : XK → Hp → VK → Prop) : WX → TS := fun W D σ H => ∃ Ech : XK,
  (∀ cls d σ' H', Ech cls d H' → W cls d σ' H') ∧ σ[0]? = some (some (.ref f)) ∧ H c' = some (LamX.CodeO c' q) ∧
  tl Ech H fun v H1 => D.nx (σ.set 2 (some v)) H1
section
variable {X : Cx} {g : Addr} {cdg : Value} {q : Str}
theorem heard_gives (TH : TxH X.K X.mg) (hA0 : X.A.guards = some []) (hr0 : Room 3 X.A) :
    LamX.GivesTo X n_lheard "_law_heard" (defScope s_lheard) g cdg (defBody s_lheard) "_law_call" q (TTh X.K X.mg) := by
  intro f c' s H Q tl act hc h
  have T := TH.T
  have hA : (cxOf C8.CX0 X.prog X.w X.K X.mg X.base n_lheard "_law_heard" (defScope s_lheard) g cdg X.A X.stack s H C8.E0).nox.A.guards = some [] := hA0
  have hr : Room 2 (cxOf C8.CX0 X.prog X.w X.K X.mg X.base n_lheard "_law_heard" (defScope s_lheard) g cdg X.A X.stack s H C8.E0).nox.A :=
    hr0.deeper (envOfC "_law_heard" (defScope s_lheard) s.heap.objs.size g cdg)
  have hbody : ∀ (W : WX) (pn : List (Addr × Obj)) (xe : Value → Shared → Prop), Takes ((cxOf C8.CX0 X.prog X.w X.K X.mg X.base n_lheard "_law_heard" (defScope s_lheard) g cdg X.A X.stack s H C8.E0).nox.tr pn xe) W →
      PassesOwn (model X.prog X.w) (cxOf C8.CX0 X.prog X.w X.K X.mg X.base n_lheard "_law_heard" (defScope s_lheard) g cdg X.A X.stack s H C8.E0).nox.A (cxOf C8.CX0 X.prog X.w X.K X.mg X.base n_lheard "_law_heard" (defScope s_lheard) g cdg X.A X.stack s H C8.E0).nox.env xe →
      PSs ((cxOf C8.CX0 X.prog X.w X.K X.mg X.base n_lheard "_law_heard" (defScope s_lheard) g cdg X.A X.stack s H C8.E0).nox.tr pn xe) (tryBody (defBody s_lheard)) (tbH f c' q tl W) := by
    intro W pn xe tk _
    refine ⟨fun pins s' σ H' D I h' => ?_⟩
    obtain ⟨Ech, hW, h1, h2, h3⟩ := h'
    have hp := act W pn xe Ech
    exact (pss_one (ps_set (i := 2) sc_lheard.nd rfl (Or.inl rfl) (hp _ _ tk hW))).run pins s' σ H' D I ⟨h1, h2, h3⟩
  refine ⟨_, (pss_cons (ps_asg (pe_tup (pa_cons (pe_non) (pa_cons (pe_non) pa_nil))) (pg_tup rfl (pgs_cons (pg_name (i := 1) sc_lheard.nd rfl (Or.inl rfl)) (pgs_cons (pg_name (i := 2) sc_lheard.nd rfl (Or.inl rfl)) pgs_nil))))
 (pss_cons (ps_try_keep (c := .ref (adr X.mg "HeadError")) (i := 3) (tb := tbH f c' q tl) rfl rfl rfl sc_lheard.nd rfl rfl ⟨by rfl, by decide, .inl TH.mgh⟩ takes0 hbody (fun a oe cls d pn _ _ => (pss_one (ps_set (i := 1) sc_lheard.nd rfl (Or.inl rfl) (pv 3)))))
 (pss_cons (ps_if (pt_cmpR op_isN (pv 1) (pe_non) (nomark _))
 (pss_one (ps_ret (pe_lst (pa_cons (pv 2) pa_nil)))) pss_nil)
 (pss_cons (ps_if (pt_val (pe_callB call_iswT (by rfl) (T.nb _ (by decide)) (by decide +kernel) (pa_cons (pv 1) (pa_cons (pe_tup (pa_cons (pe_glob (v := .ref (adr X.mg "NoStep")) rfl (TH.mgc _ (by decide)) rfl) (pa_cons (pe_glob (v := .ref (adr X.mg "NoTail")) rfl (TH.mgc _ (by decide)) rfl) pa_nil))) pa_nil))))
 (pss_one (ps_ret (pe_ifExp (pt_val (pe_callB call_isw (by rfl) (T.nb _ (by decide)) (by decide +kernel) (pa_cons (pv 1) (pa_cons (pe_glob (v := .ref (adr X.mg "NoStep")) rfl (TH.mgc _ (by decide)) rfl) pa_nil)))) (pe_tup (pa_cons (pe_str) (pa_cons (pe_xw (pv 1)) (pa_cons (pe_xw (pv 1)) pa_nil)))) (pe_tup (pa_cons (pe_str) (pa_cons (pe_xw (pv 1)) pa_nil)))))) pss_nil)
 (pss_cons (ps_if (pt_val (pe_callB call_iswT (by rfl) (T.nb _ (by decide)) (by decide +kernel) (pa_cons (pv 1) (pa_cons (pe_tup (pa_cons (pe_glob (v := .ref (adr X.mg "BadWord")) rfl (TH.mgc _ (by decide)) rfl) (pa_cons (pe_glob (v := .ref (adr X.mg "BadNumber")) rfl (TH.mgc _ (by decide)) rfl) pa_nil))) pa_nil))))
 (pss_one (ps_ret (pe_ifExp (pt_val (pe_callB call_isw (by rfl) (T.nb _ (by decide)) (by decide +kernel) (pa_cons (pv 1) (pa_cons (pe_glob (v := .ref (adr X.mg "BadWord")) rfl (TH.mgc _ (by decide)) rfl) pa_nil)))) (pe_tup (pa_cons (pe_str) (pa_cons (pe_callB (call_reprV hA hr.units) (by rfl) (T.nb _ (by decide)) (by decide +kernel) (pa_cons (pe_xw (pv 1)) pa_nil)) pa_nil))) (pe_tup (pa_cons (pe_str) (pa_cons (pe_callB (call_reprV hA hr.units) (by rfl) (T.nb _ (by decide)) (by decide +kernel) (pa_cons (pe_xw (pv 1)) pa_nil)) pa_nil)))))) pss_nil)
 (pss_cons (ps_if (pt_val (pe_callB call_iswT (by rfl) (T.nb _ (by decide)) (by decide +kernel) (pa_cons (pv 1) (pa_cons (pe_tup (pa_cons (pe_glob (v := .ref (adr X.mg "BadConverter")) rfl (TH.mgc _ (by decide)) rfl) (pa_cons (pe_glob (v := .ref (adr X.mg "NoText")) rfl (TH.mgc _ (by decide)) rfl) pa_nil))) pa_nil))))
 (pss_one (ps_ret (pe_ifExp (pt_val (pe_callB call_isw (by rfl) (T.nb _ (by decide)) (by decide +kernel) (pa_cons (pv 1) (pa_cons (pe_glob (v := .ref (adr X.mg "BadConverter")) rfl (TH.mgc _ (by decide)) rfl) pa_nil)))) (pe_tup (pa_cons (pe_str) (pa_cons (pe_xw (pv 1)) pa_nil))) (pe_tup (pa_cons (pe_str) (pa_cons (pe_callB (call_reprV hA hr.units) (by rfl) (T.nb _ (by decide)) (by decide +kernel) (pa_cons (pe_xw (pv 1)) pa_nil)) pa_nil)))))) pss_nil)
 (pss_one (ps_ret (pe_tup (pa_cons (pe_str) pa_nil)))))))))), ?_⟩
  refine ⟨(by show 2 ≤ sizeLine; decide), fun q0 hq0 => ⟨q0, _, rfl, SqT.of upd_same, rfl, _, _, rfl, _, _, rfl, rfl, ?_⟩⟩
  have sm := Same.new (u := .tup [.non, .non]) hq0
  refine ⟨EEh X.K X.mg Q, ?_, rfl, sm _ _ hc, ?_⟩
  · rintro cls d σ' H1 ⟨x, dd, fs, rfl, rfl, hdd, hcase⟩
    have hx : x ∈ hNames := by
      rcases hcase with ⟨rfl, _⟩ | ⟨rfl, _⟩ | ⟨rfl, _⟩ <;> decide
    refine ⟨true, TH.ex x hx, (fun z => Bool.noConfusion z), fun _ hlen => ⟨_, rfl, fun a ha => ?_⟩⟩
    obtain ⟨a0, a1, a2, a3, rfl⟩ : ∃ a0 a1 a2 a3, σ' = [a0, a1, a2, a3] := by
      match σ', hlen with
      | [a0, a1, a2, a3], _ => exact ⟨_, _, _, _, rfl⟩
    refine ⟨_, rfl, ?_⟩
    have sa : Same H1 (upd H1 a (exc a (adr X.mg x) (some dd))) := Same.new ha
    refine ⟨_, rfl, rfl, _, rfl, iteF ?_⟩
    generalize hG : upd H1 a (exc a (adr X.mg x) (some dd)) = G at sa
    have ga : G a = some (exc a (adr X.mg x) (some dd)) := by rw [← hG]; exact upd_same
    have gd : G dd = some (.xd fs) := sa _ _ hdd
    clear hG
    rcases hcase with ⟨rfl, v, v2, l1, l2, out⟩ | ⟨rfl, v, tx, l1, sh, out⟩ | ⟨rfl, v, l1, out⟩
    · refine ⟨_, rfl, (by show 2 ≤ sizeLine; decide), fun t1 ht1 => ?_⟩
      have s2 := Same.new (u := .tup [.ref (adr X.mg "NoStep"), .ref (adr X.mg "NoTail")]) ht1
      refine ⟨a, _, dd, fs, t1, _, _, true, rfl, TH.cl _ hx, s2 _ _ ga, s2 _ _ gd, upd_same, .cons (.own _) (.cons (.own _) .nil), (TH.kit2 hx (by decide) (by decide)).trans (by decide +kernel), _, rfl, iteT ?_⟩
      have sb := sa.trans s2
      generalize upd G t1 (.tup [.ref (adr X.mg "NoStep"), .ref (adr X.mg "NoTail")]) = G2 at s2 sb
      refine ⟨_, rfl, a, _, dd, fs, .ref (adr X.mg "NoStep"), .ref (adr X.mg "NoStep"), true, rfl, TH.cl _ hx, s2 _ _ ga, s2 _ _ gd, (fun u r => r), (TH.kit _ hx _ hx).trans (by decide +kernel), _, rfl, iteT ?_⟩
      exact ⟨_, rfl, a, _, dd, fs, v, rfl, TH.cl _ hx, TH.na _ hx _ (by decide), s2 _ _ ga, s2 _ _ gd, l1, _, rfl, a, _, dd, fs, v2, rfl, TH.cl _ hx, TH.na _ hx _ (by decide), s2 _ _ ga, s2 _ _ gd, l2, (by show 3 ≤ sizeLine; decide), fun R hR => out R _ (sb.free hR) (sb.trans (Same.new hR)) upd_same⟩
    · refine ⟨_, rfl, (by show 2 ≤ sizeLine; decide), fun t1 ht1 => ?_⟩
      have s2 := Same.new (u := .tup [.ref (adr X.mg "NoStep"), .ref (adr X.mg "NoTail")]) ht1
      refine ⟨a, _, dd, fs, t1, _, _, false, rfl, TH.cl _ hx, s2 _ _ ga, s2 _ _ gd, upd_same, .cons (.own _) (.cons (.own _) .nil), (TH.kit2 hx (by decide) (by decide)).trans (by decide +kernel), _, rfl, iteF ?_⟩
      generalize upd G t1 (.tup [.ref (adr X.mg "NoStep"), .ref (adr X.mg "NoTail")]) = G2 at s2
      refine ⟨_, rfl, (by show 2 ≤ sizeLine; decide), fun t2 ht2 => ?_⟩
      have s3 := s2.trans (Same.new (u := .tup [.ref (adr X.mg "BadWord"), .ref (adr X.mg "BadNumber")]) ht2)
      refine ⟨a, _, dd, fs, t2, _, _, true, rfl, TH.cl _ hx, s3 _ _ ga, s3 _ _ gd, upd_same, .cons (.own _) (.cons (.own _) .nil), (TH.kit2 hx (by decide) (by decide)).trans (by decide +kernel), _, rfl, iteT ?_⟩
      have sb := sa.trans s3
      generalize upd G2 t2 (.tup [.ref (adr X.mg "BadWord"), .ref (adr X.mg "BadNumber")]) = G3 at s3 sb
      refine ⟨_, rfl, a, _, dd, fs, .ref (adr X.mg "BadWord"), .ref (adr X.mg "BadWord"), true, rfl, TH.cl _ hx, s3 _ _ ga, s3 _ _ gd, (fun u r => r), (TH.kit _ hx _ hx).trans (by decide +kernel), _, rfl, iteT ?_⟩
      exact ⟨_, rfl, a, _, dd, fs, v, rfl, TH.cl _ hx, TH.na _ hx _ (by decide), s3 _ _ ga, s3 _ _ gd, l1, v, tx, rfl, sh _ sb, (by show 2 ≤ sizeLine; decide), fun R hR => out R _ (sb.free hR) (sb.trans (Same.new hR)) upd_same⟩
    · refine ⟨_, rfl, (by show 2 ≤ sizeLine; decide), fun t1 ht1 => ?_⟩
      have s2 := Same.new (u := .tup [.ref (adr X.mg "NoStep"), .ref (adr X.mg "NoTail")]) ht1
      refine ⟨a, _, dd, fs, t1, _, _, false, rfl, TH.cl _ hx, s2 _ _ ga, s2 _ _ gd, upd_same, .cons (.own _) (.cons (.own _) .nil), (TH.kit2 hx (by decide) (by decide)).trans (by decide +kernel), _, rfl, iteF ?_⟩
      generalize upd G t1 (.tup [.ref (adr X.mg "NoStep"), .ref (adr X.mg "NoTail")]) = G2 at s2
      refine ⟨_, rfl, (by show 2 ≤ sizeLine; decide), fun t2 ht2 => ?_⟩
      have s3 := s2.trans (Same.new (u := .tup [.ref (adr X.mg "BadWord"), .ref (adr X.mg "BadNumber")]) ht2)
      refine ⟨a, _, dd, fs, t2, _, _, false, rfl, TH.cl _ hx, s3 _ _ ga, s3 _ _ gd, upd_same, .cons (.own _) (.cons (.own _) .nil), (TH.kit2 hx (by decide) (by decide)).trans (by decide +kernel), _, rfl, iteF ?_⟩
      generalize upd G2 t2 (.tup [.ref (adr X.mg "BadWord"), .ref (adr X.mg "BadNumber")]) = G3 at s3
      refine ⟨_, rfl, (by show 2 ≤ sizeLine; decide), fun t3 ht3 => ?_⟩
      have s4 := s3.trans (Same.new (u := .tup [.ref (adr X.mg "BadConverter"), .ref (adr X.mg "NoText")]) ht3)
      refine ⟨a, _, dd, fs, t3, _, _, true, rfl, TH.cl _ hx, s4 _ _ ga, s4 _ _ gd, upd_same, .cons (.own _) (.cons (.own _) .nil), (TH.kit2 hx (by decide) (by decide)).trans (by decide +kernel), _, rfl, iteT ?_⟩
      have sb := sa.trans s4
      generalize upd G3 t3 (.tup [.ref (adr X.mg "BadConverter"), .ref (adr X.mg "NoText")]) = G4 at s4 sb
      refine ⟨_, rfl, a, _, dd, fs, .ref (adr X.mg "BadConverter"), .ref (adr X.mg "BadConverter"), true, rfl, TH.cl _ hx, s4 _ _ ga, s4 _ _ gd, (fun u r => r), (TH.kit _ hx _ hx).trans (by decide +kernel), _, rfl, iteT ?_⟩
      exact ⟨_, rfl, a, _, dd, fs, v, rfl, TH.cl _ hx, TH.na _ hx _ (by decide), s4 _ _ ga, s4 _ _ gd, l1, (by show 2 ≤ sizeLine; decide), fun R hR => out R _ (sb.free hR) (sb.trans (Same.new hR)) upd_same⟩
  · refine h _ _ sm fun v H1 hout => ?_
    refine ⟨_, rfl, rfl, _, rfl, iteT ?_⟩
    exact ⟨_, rfl, (by show 1 ≤ sizeLine; decide), fun L hL => hout L _ hL (Same.new hL) upd_same⟩
end
end KC

namespace KC
open PySem L2 PyProof.Rows
theorem Wk.at {st : List StE} {s e : Str} {cs : List Nat} {ws : List (Str × Str)} (h : Wk st s cs ws e) : ∀ (i c : Nat), cs[i]? = some c → ∃ s' a to, (sts s ws)[i]? = some s' ∧ ws[i]? = some (a, to) ∧ stepOf st s' ⟨#[c]⟩ = some (a, to) := by
  induction h with
  | nil s => intro i c h; simp at h
  | cons h1 _ ih =>
    rename_i s a to e c0 cs ws h2
    intro i c h
    cases i with
    | zero =>
      obtain rfl : c0 = c := Option.some.inj h
      exact ⟨s, a, to, rfl, rfl, h1⟩
    | succ i => exact ih i c h
section
variable {P : Program} {w : World} {K : PySem.W.Frag} {mg : Str → Option Value} {base : Heap}
def spLHts (K : PySem.W.Frag) : Sp := fun vs H Q _ => ∃ (q L : Addr) (z s e : Str) (st : List StE) (tl ws : List (Str × Str)), vs = [.ref q, .ref L, .str z] ∧ PlAt K H q s st tl ∧ OkParts s st tl ∧ isTxt z = true ∧ Wk st s z.cps.toList ws e ∧ H L = some (.lst ((sts s ws).map V.str)) ∧
  ∀ B H', Same H H' → H' B = some (.lst ((hts 0 ws).map V.int)) → Q (.ref B) H'
theorem kp_lheights (T : Txt K mg) : Kf P w K mg base 1 "_law_heights" ["_law_plan_here", "_law_states", "_law_text_here"] (spLHts K) := by
  refine T.d_lheights.okF sc_lheights (fun vs H Q E h => ?_) (fun f cdv A outer s H vs Q E hA hr h => ?_)
  · obtain ⟨q, L, z, s, e, st, tl, ws, rfl, _⟩ := h
    rfl
  · obtain ⟨q, L, z, s0, e, st, tl, ws, rfl, ⟨d, t, hq, ⟨kvs, hd, hsk, ndk⟩, ht, nd⟩, ok, hT, wk, hL, k⟩ := h
    refine ⟨_, (pss_cons (ps_set (i := 3) sc_lheights.nd rfl (Or.inl rfl) (pe_lst (pa_cons (pe_int) pa_nil)))
 (pss_cons (ps_for PassesOwn.never rfl (pi_zipS (by rfl) (T.nb _ (by decide)) (pa_cons (pv 1) (pa_cons (pv 2) pa_nil))) (pg_tup rfl (pgs_cons (pg_name (i := 4) sc_lheights.nd rfl (Or.inl rfl)) (pgs_cons (pg_name (i := 5) sc_lheights.nd rfl (Or.inl rfl)) pgs_nil)))
 (pss_one (ps_set (i := 3) sc_lheights.nd rfl (Or.inl rfl) (pe_op op_cat (pv 3) (pe_lst (pa_cons (pe_op op_sub (pe_op op_add (pe_ix (ix_list : IxR _ (rIxL K)) (pv 3) (pe_un un_neg (pe_int)) (fun _ _ => rfl)) (pe_callB call_len (by rfl) (T.nb _ (by decide)) PySem.boot_len (pa_cons (pe_ix (ix_tup : IxR _ (rIxT K)) (pe_dget (hu_of hr) (pe_dget (hu_of hr) (pv 0) (pe_str) (fun _ _ => rfl)) (pe_tup (pa_cons (pv 4) (pa_cons (pv 5) pa_nil))) (fun _ _ => rfl)) (pe_int) (fun _ _ => rfl)) pa_nil))) (pe_int)) pa_nil))))))
 (pss_one (ps_ret (pv 3))))), ?_⟩
    have l4 : z.length ≤ 400 := okL_le hT
    have lz : z.cps.size = z.length := rfl
    have wl : ws.length = z.length := by rw [wk.len, Array.length_toList]; rfl
    refine ⟨(by show 1 ≤ sizeLine; decide), fun A1 hA1 => ?_⟩
    have q1 : Same H (upd H A1 (.lst [.int 0])) := Same.new hA1
    have g1 : upd H A1 (.lst [.int 0]) A1 = some (.lst ((hts 0 (ws.take 0)).map V.int)) := by
      rw [upd_same, List.take_zero]
      rfl
    generalize upd H A1 (.lst [.int 0]) = H1 at q1 g1
    refine ⟨_, rfl, _, rfl, L, z, _, rfl, SqL.of (q1 _ _ hL), ?_⟩
    have ls : z.cps.size ≤ ((sts s0 ws).map V.str).length := by
      rw [List.length_map]
      unfold sts
      rw [List.length_cons, List.length_map]
      omega
    refine for_it (walk_zipS (K := K) (a := L) (z := z) (xs := (sts s0 ws).map V.str) ls) (fun i σ H' => ∃ (B : Addr) (v4 v5 : Option V),
      σ = [some (.ref q), some (.ref L), some (.str z), some (.ref B), v4, v5] ∧ Same H H' ∧ H' B = some (.lst ((hts 0 (ws.take i)).map V.int)))
      ⟨A1, _, _, rfl, q1, g1⟩ (fun i σ H' _ ⟨_, _, _, _, sm, _⟩ => SqL.of (sm _ _ hL)) ?_ ?_
    · rintro i xv σ G0 H2 hi ⟨B, v4, v5, rfl, sm, gB⟩ ⟨T1, x1, y1, rfl, hT1, rfl, h1, h2⟩
      obtain ⟨cc, hc⟩ : ∃ cc, z.cps[i]? = some cc := ⟨_, Array.getElem?_eq_getElem hi⟩
      have h2' : (z.cps[i]?).map (fun c => V.str ⟨#[c]⟩) = some y1 := h2
      rw [hc] at h2'
      obtain rfl : V.str ⟨#[cc]⟩ = y1 := Option.some.inj h2'
      have hcl : z.cps.toList[i]? = some cc := by rw [Array.getElem?_toList]; exact hc
      obtain ⟨s', a, to, e1, e2, e3⟩ := wk.at i cc hcl
      have h1' : ((sts s0 ws).map V.str)[i]? = some x1 := h1
      rw [List.getElem?_map, e1] at h1'
      obtain rfl : V.str s' = x1 := Option.some.inj h1'
      have tk : ws.take (i + 1) = ws.take i ++ [(a, to)] := by
        rw [List.take_add_one, e2]
        rfl
      have q3 : Same G0 (upd G0 T1 (.tup [.str s', .str ⟨#[cc]⟩])) := Same.new hT1
      have sm2 := sm.trans q3
      have gB := q3 _ _ gB
      refine ⟨T1, _, rfl, SqT.of upd_same, rfl, _, _, rfl, _, _, rfl, rfl, ?_⟩
      generalize upd G0 T1 (.tup [.str s', .str ⟨#[cc]⟩]) = G at sm2 gB
      refine ⟨_, rfl, _, rfl, _, rfl, B, _, -1, _, rfl, rfl, SqL.of gB, atI_lastI (hts_last 0 _), ?_⟩
      refine ⟨_, rfl, q, .ref d, rfl, .inl ⟨_, .inr "steps", .inl (sm2 _ _ hq), rfl, (pl_steps s0 d t).symm⟩, _, rfl, _, rfl, (by show 2 ≤ sizeLine; decide), fun kt hkt => ?_⟩
      have q2 : Same G (upd G kt (.tup [.str s', .str ⟨#[cc]⟩])) := Same.new hkt
      have hk : upd G kt (.tup [.str s', .str ⟨#[cc]⟩]) kt = some (.tup [.str s', .str ⟨#[cc]⟩]) := upd_same
      have sm3 := sm2.trans q2
      have gB := q2 _ _ gB
      generalize upd G kt (.tup [.str s', .str ⟨#[cc]⟩]) = H3 at q2 hk sm3 gB
      rcases (hsk.same sm3).get ndk s' ⟨#[cc]⟩ with ⟨f1, f2⟩ | ⟨a', to', qa, f1, f2, f3⟩
      · rw [e3] at f1
        cases f1
      rw [e3] at f1
      obtain ⟨rfl, rfl⟩ := Prod.mk.inj (Option.some.inj f1)
      have la : a.length ≤ 4 := okL_le (stepOf_ok e3 ok.ost).1
      refine ⟨d, .ref qa, rfl, .inr ⟨kvs, [.inr s', .inr ⟨#[cc]⟩], kt, .inl (sm3 _ _ hd), rfl, hk, f2.symm⟩, ?_⟩
      refine ⟨qa, _, 0, .str a, rfl, rfl, f3, rfl, .str a, _, rfl, ⟨Nat.le_trans la (by decide), rfl⟩, _, _, rfl, rfl, _, _, rfl, rfl, (by show 1 ≤ sizeLine; decide), fun l1 hl1 => ?_⟩
      generalize hv : (0 : Int) + (lenW (List.take i ws) : Nat) - ((List.take i ws).length : Nat) + (a.length : Nat) - 1 = hv0
      have q5 : Same H3 (upd H3 l1 (.lst [.int hv0])) := Same.new hl1
      have n5 : upd H3 l1 (.lst [.int hv0]) l1 = some (.lst [.int hv0]) := upd_same
      have sm4 := sm3.trans q5
      have gB := q5 _ _ gB
      have go : (fun i j => V.int (i - j)) ((0 : Int) + (lenW (List.take i ws) : Nat) - ((List.take i ws).length : Nat) + (a.length : Nat)) 1 = V.int hv0 := by rw [← hv]
      rw [go]
      generalize upd H3 l1 (.lst [.int hv0]) = H5 at q5 n5 sm4 gB
      have wi : (List.take i ws).length ≤ 400 := by
        rw [List.length_take]
        omega
      refine ⟨B, l1, _, _, rfl, rfl, gB, n5, ?_, fun C5 hC5 => ?_⟩
      · rw [List.length_map, hts_len]
        show _ + 1 + 1 ≤ sizeLine
        exact Nat.le_trans (show _ ≤ 1000 by omega) (by decide)
      refine ⟨C5, _, _, rfl, sm4.trans (Same.new hC5), ?_⟩
      rw [upd_same, tk, hts_app, List.map_append, hv]
      rfl
    · rintro σ H' ⟨B, v4, v5, rfl, sm, gB⟩
      rw [show z.cps.size = ws.length from wl.symm ▸ lz, List.take_length] at gB
      exact ⟨_, rfl, k B H' sm gB⟩
end
end KC

namespace KC
open PySem L2 PyProof.Rows
/-! what stays where tables grow -/
theorem SqT.extN {K : PySem.W.Frag} {H H' : Hp} {a : Addr} {xs : List V} (h : SqT K H a xs) (m : LamX.ExtN H H') : SqT K H' a xs := by
  rcases h with (h | ⟨o, h⟩) | h
  · exact .inl (.inl (m _ _ h fun _ z => by cases z))
  · exact .inl (.inr ⟨o, m _ _ h fun _ z => by cases z⟩)
  · exact .inr h
theorem StAt.extN {K : PySem.W.Frag} {H H' : Hp} {d : Addr} {st : List StE} (h : StAt K H d st) (m : LamX.ExtN H H') : StAt K H' d st := by
  obtain ⟨kvs, a, b, c⟩ := h.ex
  refine ⟨kvs, m _ _ a (fun _ z => by cases z), ⟨b.1, fun i e he => ?_⟩, c⟩
  obtain ⟨q, h1, h2⟩ := b.2 i e he
  exact ⟨q, h1, SqT.extN h2 m⟩
theorem CvAt.extN {K : PySem.W.Frag} {C : Addr} {H H' : Hp} {x : Addr} {s : Str} {st : List StE} {tl : List (Str × Str)} (h : CvAt K C H x s st tl) (m : LamX.ExtN H H') : CvAt K C H' x s st tl := by
  obtain ⟨dx, ss, ls, d, t, ys, zs, h1, h2, h3, h4, h5, h6, h7, h8, h9, h10⟩ := h
  exact ⟨dx, ss, ls, d, t, ys, zs, m _ _ h1 (fun _ z => by cases z), m _ _ h2 (fun _ z => by cases z), h3, h4, m _ _ h5 (fun _ z => by cases z), h6, h7, StAt.extN h8 m, m _ _ h9 (fun _ z => by cases z), h10⟩
theorem PlAt.extN {K : PySem.W.Frag} {H H' : Hp} {p : Addr} {s : Str} {st : List StE} {tl : List (Str × Str)} (h : PlAt K H p s st tl) (m : LamX.ExtN H H') : PlAt K H' p s st tl := by
  obtain ⟨d, t, h1, h2, h3, h4⟩ := h
  exact ⟨d, t, m _ _ h1 (fun _ z => by cases z), StAt.extN h2 m, m _ _ h3 (fun _ z => by cases z), h4⟩
theorem PenAt.extN {H H' : Hp} {p c : Addr} {ns : List Int} {n : Nat} (h : PenAt H p c ns n) (m : LamX.ExtN H H') : PenAt H' p c ns n := by
  obtain ⟨t, g, a, b, e⟩ := h
  exact ⟨t, g, m _ _ a (fun _ z => by cases z), m _ _ b (fun _ z => by cases z), e⟩
theorem extN_same {H H' : Hp} (h : Same H H') : LamX.ExtN H H' := fun b o e _ => h b o e
section
variable {X : Cx} {c P : Addr} {TT : List (Addr × Str)} {t : XK → TE} {p lpos pos : Pos} {params : Arguments} {body : Expr} {scope : Scope} {j : Nat}
/-- _law_heard(lambda: ..) -/
theorem pe_heard (TH : TxH X.K X.mg) (hA : X.A.guards = some []) (hr : Room j X.A) (hg : Gl X "_law_heard") (TB : LamX.TabB X.base X.mg c P) (hcode : X.env.code = .ref c)
    (hmT : (P, X.env.qual ++ "<lambda>") ∈ TT) (hu : ∀ q ∈ TT, q.1 = P → q.2 = X.env.qual ++ "<lambda>") (L : LamX.LamS X.env.scope scope) (hdef : defaultsOf params X.env = ([], []))
    (hbind : ∀ (q : Str) (cl : List (Str × Addr)) (pm cv ctv : Value), bindArgs (PySem.W.kla_fn "<lambda>" q params body scope cl pm cv ctv) ⟨[], []⟩ = pure [])
    (hbody : ∀ (A : Around) (outer : List Env) (s : Shared) (H : Hp) (E : XK) (f c' : Addr), Room 5 (A.deeper (LamX.lamEnv X scope s.heap.objs.size f c')) → PE (LamX.lamCx X A outer s H E scope f c') body (t E))
    (hj : 7 ≤ j := by decide) :
    PE X (.Call (.Name "_law_heard" p) [.Lambda params body scope lpos] [] pos) (LamX.tLam TT (TTh X.K X.mg) t) := by
  obtain ⟨g, fd, hm, F, hb⟩ := TH.T.d_lheard
  obtain ⟨oc, od, kV, doc, pm, an, cdv, ct, osl, rfl, lk, hcd⟩ := F.ex
  have hr5 : Room 7 X.A := hr.mono hj
  exact LamX.pe_lamcall hg hm F.kp lk hcd hb sc_lheard rfl (Or.inl rfl) (heard_gives TH hA (hr5.mono (by decide))) TB hcode hmT hu hr5 L hdef hbind hbody
end
theorem extN_over {H H3 H6 : Hp} {L : Addr} {u : HO} (a : LamX.ExtN H H3) (hL : H3 L = none) (m : LamX.ExtN H H6) : LamX.ExtN H (upd H6 L u) := fun b o e n => upd_oth (fun z => by
  have := a b o e n
  rw [z, hL] at this
  cases this) (m b o e n)
theorem tabs_updL {T : List (Addr × Str)} {H : Hp} {L : Addr} {xs : List V} {u : HO} (t : LamX.Tabs T H) (g : H L = some (.lst xs)) : LamX.Tabs T (upd H L u) := by
  intro p hp
  obtain ⟨ps, h1, h2, h3⟩ := t p hp
  refine ⟨ps, upd_oth (fun z => by rw [z, g] at h1; cases h1) h1, h2, fun pos cv hc => ?_⟩
  obtain ⟨c, e1, e2⟩ := h3 pos cv hc
  exact ⟨c, e1, upd_oth (fun z => by rw [z, g] at e2; cases e2) e2⟩
theorem Wk.split {st : List StE} {s s' : Str} {c1 : List Nat} {w1 : List (Str × Str)} (h : Wk st s c1 w1 s') : ∀ {c2 : List Nat} {ws : List (Str × Str)} {e : Str}, Wk st s (c1 ++ c2) ws e → ∃ w2, ws = w1 ++ w2 ∧ Wk st s' c2 w2 e := by
  induction h with
  | nil s => exact fun h => ⟨_, rfl, h⟩
  | cons h1 _ ih =>
    intro c2 ws e h
    rw [List.cons_append] at h
    cases h with
    | cons k1 k2 =>
      rw [h1] at k1
      obtain ⟨rfl, rfl⟩ := Prod.mk.inj (Option.some.inj k1)
      obtain ⟨w2, e1, e2⟩ := ih k2
      exact ⟨w2, by rw [e1]; rfl, e2⟩
/-! flat data -/
inductive Flat : V → PyData → Prop
  | int (i : Int) : Flat (.int i) (.int i)
  | str (s : Str) (h : PyData.strOk s = true) : Flat (.str s) (.str s)
inductive FlatAll : List V → List PyData → Prop
  | nil : FlatAll [] []
  | cons {v : V} {d : PyData} {vs : List V} {ds : List PyData} : Flat v d → FlatAll vs ds → FlatAll (v :: vs) (d :: ds)
theorem FlatAll.dp {K : PySem.W.Frag} {H : Hp} : ∀ {vs : List V} {ds : List PyData}, FlatAll vs ds → DpAll K H vs ds
  | _, _, .nil => .nil
  | _, _, .cons (.int i) t => .cons (.int i) t.dp
  | _, _, .cons (.str s _) t => .cons (.str s) t.dp
theorem FlatAll.can : ∀ {vs : List V} {ds : List PyData}, FlatAll vs ds → PyData.canLayAll0 ds = true
  | _, _, .nil => rfl
  | _, _, .cons (.int i) t => by
    unfold PyData.canLayAll0
    rw [t.can]
    rfl
  | _, _, .cons (.str s h) t => by
    unfold PyData.canLayAll0
    rw [t.can]
    simp [PyData.canLay0, h]
theorem FlatAll.dep : ∀ {vs : List V} {ds : List PyData}, FlatAll vs ds → PyData.depthAll ds ≤ 1
  | _, _, .nil => by simp [PyData.depthAll]
  | _, _, .cons (.int i) t => by
    have := t.dep
    simp [PyData.depthAll, PyData.depth]
    omega
  | _, _, .cons (.str s h) t => by
    have := t.dep
    simp [PyData.depthAll, PyData.depth]
    omega
theorem FlatAll.eqv : ∀ {vs : List V} {ds : List PyData}, FlatAll vs ds → PyData.eqvAll ds ds = true
  | _, _, .nil => by simp [PyData.eqvAll]
  | _, _, .cons (.int i) t => by simp [PyData.eqvAll, PyData.eqv, t.eqv]
  | _, _, .cons (.str s h) t => by simp [PyData.eqvAll, PyData.eqv, t.eqv]
theorem flat_strs : ∀ {xs : List Str}, (∀ x ∈ xs, PyData.strOk x = true) → FlatAll (xs.map V.str) (xs.map PyData.str)
  | [], _ => .nil
  | x :: xs, h => .cons (.str x (h x List.mem_cons_self)) (flat_strs fun y hy => h y (List.mem_cons_of_mem _ hy))
theorem flat_ints : ∀ (xs : List Int), FlatAll (xs.map V.int) (xs.map PyData.int)
  | [] => .nil
  | x :: xs => .cons (.int x) (flat_ints xs)
/-- a told value -/
def Lay (H : Hp) (v : V) (d : PyData) : Prop := (∃ a xs ds, v = .ref a ∧ H a = some (.tup xs) ∧ FlatAll xs ds ∧ d = .tuple ds) ∨
  (∃ L R xs ds, v = .ref L ∧ H L = some (.lst [.ref R]) ∧ H R = some (.tup xs) ∧ FlatAll xs ds ∧ d = .list [.tuple ds])
theorem Lay.extN {H H' : Hp} {v : V} {d : PyData} (h : Lay H v d) (m : LamX.ExtN H H') : Lay H' v d := by
  rcases h with ⟨a, xs, ds, e, h1, h2, h3⟩ | ⟨L, R, xs, ds, e, h1, h2, h3, h4⟩
  · exact .inl ⟨a, xs, ds, e, m _ _ h1 (fun _ z => by cases z), h2, h3⟩
  · exact .inr ⟨L, R, xs, ds, e, m _ _ h1 (fun _ z => by cases z), m _ _ h2 (fun _ z => by cases z), h3, h4⟩
theorem Lay.updL {H : Hp} {v : V} {d : PyData} {L : Addr} {ys : List V} {u : HO} (h : Lay H v d) (g : H L = some (.lst ys)) (ne : v ≠ .ref L) : Lay (upd H L u) v d := by
  rcases h with ⟨a, xs, ds, e, h1, h2, h3⟩ | ⟨L', R, xs, ds, e, h1, h2, h3, h4⟩
  · exact .inl ⟨a, xs, ds, e, upd_oth (fun z => by rw [z, g] at h1; cases h1) h1, h2, h3⟩
  · exact .inr ⟨L', R, xs, ds, e, upd_oth (fun z => ne (by rw [e, z])) h1, upd_oth (fun z => by rw [z, g] at h2; cases h2) h2, h3, h4⟩
theorem Lay.dp {K : PySem.W.Frag} {H : Hp} {v : V} {d : PyData} (h : Lay H v d) : Dp K H v d := by
  rcases h with ⟨a, xs, ds, rfl, h1, h2, rfl⟩ | ⟨L, R, xs, ds, rfl, h1, h2, h3, rfl⟩
  · exact .tup (SqT.of h1) h2.dp
  · exact .lst (SqL.of h1) (.cons (.tup (SqT.of h2) h3.dp) .nil)
theorem Lay.can {H : Hp} {v : V} {d : PyData} (h : Lay H v d) : PyData.canLay0 d = true ∧ PyData.depth d ≤ 3 ∧ PyData.eqv d d = true := by
  rcases h with ⟨a, xs, ds, rfl, h1, h2, rfl⟩ | ⟨L, R, xs, ds, rfl, h1, h2, h3, rfl⟩
  · have := h2.dep
    refine ⟨by simp [PyData.canLay0, h2.can], by simp [PyData.depth]; omega, by simp [PyData.eqv, h2.eqv]⟩
  · have := h3.dep
    refine ⟨by simp [PyData.canLay0, PyData.canLayAll0, h3.can], by simp [PyData.depth, PyData.depthAll]; omega, by simp [PyData.eqv, PyData.eqvAll, h3.eqv]⟩
theorem lay_shaped : ∀ {ds : List PyData}, (∀ d ∈ ds, PyData.canLay0 d = true ∧ PyData.depth d ≤ 3 ∧ PyData.eqv d d = true) → SeqAt.shaped (.list ds) = true ∧ PyData.eqv (.list ds) (.list ds) = true := by
  intro ds h
  have a : PyData.canLayAll0 ds = true ∧ PyData.depthAll ds ≤ 3 ∧ PyData.eqvAll ds ds = true := by
    induction ds with
    | nil => exact ⟨rfl, by simp [PyData.depthAll], by simp [PyData.eqvAll]⟩
    | cons d ds ih =>
      obtain ⟨a1, a2, a3⟩ := ih fun x hx => h x (List.mem_cons_of_mem _ hx)
      obtain ⟨b1, b2, b3⟩ := h d List.mem_cons_self
      refine ⟨by simp [PyData.canLayAll0, a1, b1], by simp [PyData.depthAll]; omega, by simp [PyData.eqvAll, a3, b3]⟩
  obtain ⟨a1, a2, a3⟩ := a
  refine ⟨?_, by simp [PyData.eqv, a3]⟩
  simp [SeqAt.shaped, PyData.canLay0, PyData.depth, a1]
  omega
/-! one way, and where it ends -/
theorem Wk.uniq {st : List StE} {s e : Str} {cs : List Nat} {ws : List (Str × Str)} (h : Wk st s cs ws e) : ∀ {ws' : List (Str × Str)} {e' : Str}, Wk st s cs ws' e' → ws = ws' ∧ e = e' := by
  induction h with
  | nil s =>
    intro ws' e' h
    cases h
    exact ⟨rfl, rfl⟩
  | cons h1 _ ih =>
    intro ws' e' h
    cases h with
    | cons k1 k2 =>
      rw [h1] at k1
      obtain ⟨rfl, rfl⟩ := Prod.mk.inj (Option.some.inj k1)
      obtain ⟨e1, e2⟩ := ih k2
      exact ⟨by rw [e1], e2⟩
theorem no_pass {st : List StE} {s e : Str} {cs : List Nat} {i c : Nat} {w1 : List (Str × Str)} (hc : cs[i]? = some c) (wk : Wk st s (cs.take i) w1 e) (hn : stepOf st e ⟨#[c]⟩ = none) {ws : List (Str × Str)} {e' : Str} (h : Wk st s cs ws e') : False := by
  have hi : i < cs.length := by
    rcases Nat.lt_or_ge i cs.length with h | h
    · exact h
    · rw [List.getElem?_eq_none h] at hc
      cases hc
  have sp : cs = cs.take i ++ c :: cs.drop (i + 1) := by
    conv => lhs; rw [← List.take_append_drop i cs]
    congr 1
    rw [List.drop_eq_getElem_cons hi]
    congr 1
    rw [List.getElem?_eq_getElem hi] at hc
    exact Option.some.inj hc
  rw [sp] at h
  obtain ⟨w2, _, h2⟩ := wk.split h
  cases h2 with
  | cons k1 _ =>
    rw [hn] at k1
    cases k1
theorem stuck_le {st : List StE} {s e e' : Str} {cs : List Nat} {i c i' : Nat} {w1 w1' : List (Str × Str)} (hc : cs[i]? = some c) (wk : Wk st s (cs.take i) w1 e) (hn : stepOf st e ⟨#[c]⟩ = none) (wk' : Wk st s (cs.take i') w1' e') : i' ≤ i := by
  rcases Nat.lt_or_ge i i' with lt | ge
  · exfalso
    refine no_pass (w1 := w1) (cs := cs.take i') (i := i) (c := c) ?_ ?_ hn wk'
    · rw [List.getElem?_take_of_lt lt]
      exact hc
    · rw [List.take_take, Nat.min_eq_left (Nat.le_of_lt lt)]
      exact wk
  · exact ge
theorem stuck_uniq {st : List StE} {s e e' : Str} {cs : List Nat} {i c i' c' : Nat} {w1 w1' : List (Str × Str)} (hc : cs[i]? = some c) (wk : Wk st s (cs.take i) w1 e) (hn : stepOf st e ⟨#[c]⟩ = none) (hc' : cs[i']? = some c') (wk' : Wk st s (cs.take i') w1' e') (hn' : stepOf st e' ⟨#[c']⟩ = none) : i' = i ∧ e' = e := by
  have := Nat.le_antisymm (stuck_le hc wk hn wk') (stuck_le hc' wk' hn' wk)
  subst this
  exact ⟨rfl, (wk'.uniq wk).2⟩
end KC

namespace KC
open PySem L2 PyProof.Rows
/-- what is asked, and what is heard of it -/
def Ask (K : PySem.W.Frag) (mg : Str → Option Value) (H : Hp) (v wv : V) (out : Str → List (Str × Str) → List V) (d : PyData) : Prop :=
  (BadC K (gC mg) H v ∧ d = .tuple [.str "converter", .str "converter"]) ∨
  ∃ (x : Addr) (s : Str) (st : List StE) (tl : List (Str × Str)), v = .ref x ∧ CvAt K (gC mg) H x s st tl ∧ OkParts s st tl ∧
    ((∃ t, BadW K H wv ∧ ShwE K H wv t ∧ PyData.strOk t = true ∧ d = .tuple [.str "word", .str t]) ∨
     (∃ z : Str, wv = .str z ∧ isTxt z = true ∧
       ((∃ (i c : Nat) (w1 : List (Str × Str)) (e : Str), z.cps.toList[i]? = some c ∧ Wk st s (z.cps.toList.take i) w1 e ∧ stepOf st e ⟨#[c]⟩ = none ∧ PyData.strOk e = true ∧ d = .tuple [.str "step", .int (i : Nat), .str e]) ∨
        (∃ (ws : List (Str × Str)) (e : Str) (ds : List PyData), Wk st s z.cps.toList ws e ∧ FlatAll (out s ws) ds ∧ d = .list [.tuple ds]))))
theorem ShwE.ext {K : PySem.W.Frag} {H H' : Hp} {v : V} {t : Str} (h : ShwE K H v t) (s : Same H H') : ShwE K H' v t := fun H2 s2 => h H2 (s.trans s2)
/-- what is heard: a new value of this data -/
def NewAt (d : PyData) (H : Hp) (Q : VK) : Prop := ∀ v H', Same H H' → Lay H' v d → (∃ a, v = .ref a ∧ H a = none) → Q v H'
theorem pre_heard {K : PySem.W.Frag} {mg : Str → Option Value} {H : Hp} {Q : VK} {v wv : V} {out : Str → List (Str × Str) → List V} {d : PyData} (h : Ask K mg H v wv out d) (k : NewAt d H Q) :
    ∀ (H' : Hp) (R : VK), Same H H' → (∀ v H1, (∀ L H2, H1 L = none → Same H1 H2 → H2 L = some (.lst [v]) → Q (.ref L) H2) → R v H1) →
      PreA K mg v wv H' (EEh K mg Q) fun s ws => ∀ (T : Addr) H'', Same H' H'' → H'' T = some (.tup (out s ws)) → R (.ref T) H'' := by
  intro H' R sm hR
  have tell : ∀ (x : Str) (fs : List (Str × V)) (xs : List V) (ds : List PyData), FlatAll xs ds → d = .tuple ds →
      (∀ dd H2, Same H H2 → H2 dd = some (.xd fs) → (OutV xs H2 Q → EEh K mg Q (.ref (adr mg x)) (some dd) H2)) → Told mg H' (EEh K mg Q) x fs := by
    intro x fs xs ds hf hd hx dd H2 hdd s2 e2
    refine hx dd H2 (sm.trans s2) e2 fun T H3 hT s3 e3 => ?_
    exact k (.ref T) H3 ((sm.trans s2).trans s3) (.inl ⟨T, xs, ds, rfl, e3, hf, hd⟩) ⟨T, rfl, (sm.trans s2).free hT⟩
  rcases h with ⟨hb, hd⟩ | ⟨x, s, st, tl, rfl, cv, ok, h⟩
  · refine .inl ⟨hb.same sm, tell _ _ [.str "converter", .str "converter"] _ (.cons (.str _ (by decide +kernel)) (.cons (.str _ (by decide +kernel)) .nil)) hd fun dd H2 s2 e2 out => ?_⟩
    exact ⟨_, dd, _, rfl, rfl, e2, .inr (.inr ⟨rfl, _, rfl, out⟩)⟩
  · refine .inr ⟨x, s, st, tl, rfl, cv.same sm, ok, ?_⟩
    rcases h with ⟨t, hb, sh, so, hd⟩ | ⟨z, rfl, hT, h⟩
    · refine .inl ⟨hb.same sm, tell _ _ [.str "word", .str t] _ (.cons (.str _ (by decide +kernel)) (.cons (.str _ so) .nil)) hd fun dd H2 s2 e2 out => ?_⟩
      exact ⟨_, dd, _, rfl, rfl, e2, .inr (.inl ⟨rfl, wv, t, rfl, sh.ext s2, out⟩)⟩
    · refine .inr ⟨z, rfl, hT, ?_⟩
      rcases h with ⟨i, c, w1, e, hc, wk, hn, so, hd⟩ | ⟨ws, e, ds, wk, hf, hd⟩
      · refine ⟨fun i' c' w1' e' hc' wk' hn' => ?_, fun ws e' _ wk' => (no_pass hc wk hn wk').elim⟩
        obtain ⟨rfl, rfl⟩ := stuck_uniq hc wk hn hc' wk' hn'
        refine tell _ _ [.str "step", .int (i' : Nat), .str e'] _ (.cons (.str _ (by decide +kernel)) (.cons (.int _) (.cons (.str _ so) .nil))) hd fun dd H2 s2 e2 out => ?_
        exact ⟨_, dd, _, rfl, rfl, e2, .inl ⟨rfl, _, _, rfl, rfl, out⟩⟩
      · refine ⟨fun i' c' w1' e' hc' wk' hn' => (no_pass hc' wk' hn' wk).elim, fun ws' e' _ wk' T H2 s2 e2 => ?_⟩
        obtain ⟨rfl, rfl⟩ := wk.uniq wk'
        refine hR _ _ fun L H3 hL s3 e3 => ?_
        exact k (.ref L) H3 ((sm.trans s2).trans s3) (.inr ⟨L, T, _, ds, rfl, e3, s3 _ _ e2, hf, hd⟩) ⟨L, rfl, (sm.trans s2).free hL⟩
section
variable {K : PySem.W.Frag} {mg : Str → Option Value} {H : Hp} {Q : VK} {σ : L2.St} {v wv : V} {d : PyData} {i j : Nat}
theorem heard_run (hi : σ[i]? = some (some v)) (hj : σ[j]? = some (some wv)) (h : Ask K mg H v wv (fun s ws => (s :: ws.map (·.2)).map V.str) d) (k : NewAt d H Q) :
    TTh K mg (fun E H' Q' => tCall (spRunF K mg) [] E (tCons (tVar i) (tCons (tVar j) tNil)) σ H' Q') H Q :=
  fun H' R sm hR => ⟨_, hi, _, hj, v, wv, rfl, pre_heard h k H' R sm hR⟩
theorem heard_climbs (hi : σ[i]? = some (some v)) (hj : σ[j]? = some (some wv)) (h : Ask K mg H v wv (fun _ ws => (hts 0 ws).map V.int) d) (k : NewAt d H Q) :
    TTh K mg (fun E H' Q' => tCall (spClimbs K mg) [] E (tCons (tVar i) (tCons (tVar j) tNil)) σ H' Q') H Q :=
  fun H' R sm hR => ⟨_, hi, _, hj, v, wv, rfl, pre_heard h k H' R sm hR⟩
theorem heard_climbsV (hi : σ[i]? = some (some v)) (hj : σ[j]? = some (some wv)) (h : Ask K mg H v wv (fun _ ws => (hts 0 ws).map V.int) d) (k : NewAt d H Q) :
    TTh K mg (fun E H' Q' => tCallVX (spClimbs K mg) E (tCons (tVar j) (tCons (tVar i) tNil)) σ H' Q') H Q :=
  fun H' R sm hR => ⟨_, hj, _, hi, v, wv, rfl, pre_heard h k H' R sm hR⟩
end
end KC

namespace KC
open PySem L2 PyProof.Rows
theorem CvAt.but {K : PySem.W.Frag} {C : Addr} {H H' : Hp} {p x : Addr} {s : Str} {st : List StE} {tl : List (Str × Str)} (h : CvAt K C H x s st tl) (hp : ∃ xs, H p = some (.lst xs)) (m : But p H H') : CvAt K C H' x s st tl := by
  obtain ⟨xs, hp⟩ := hp
  have f : ∀ {b : Addr} {o : HO}, H b = some o → (∀ xs, o ≠ .lst xs) → H' b = some o := fun {b o} e n => m _ (fun z => by rw [z, hp] at e; exact n _ (Option.some.inj e).symm) _ e
  obtain ⟨dx, ss, ls, d, t, ys, zs, h1, h2, h3, h4, h5, h6, h7, h8, h9, h10⟩ := h
  exact ⟨dx, ss, ls, d, t, ys, zs, f h1 (fun _ z => by cases z), f h2 (fun _ z => by cases z), h3, h4, f h5 (fun _ z => by cases z), h6, h7, h8.but hp m, f h9 (fun _ z => by cases z), h10⟩
theorem tabs_but {T : List (Addr × Str)} {H H' : Hp} {p : Addr} {o : HO} (t : LamX.Tabs T H) (hp : H p = some o) (n1 : ∀ ps, o ≠ .tbl ps) (n2 : ∀ c q, o ≠ LamX.CodeO c q) (m : But p H H') : LamX.Tabs T H' := by
  intro r hr
  obtain ⟨ps, h1, h2, h3⟩ := t r hr
  refine ⟨ps, m _ (fun z => by rw [z, hp] at h1; exact n1 _ (Option.some.inj h1)) _ h1, h2, fun pos cv hc => ?_⟩
  obtain ⟨c, e1, e2⟩ := h3 pos cv hc
  exact ⟨c, e1, m _ (fun z => by rw [z, hp] at e2; exact n2 _ _ (Option.some.inj e2)) _ e2⟩
/-! what is no text -/
def bigA : Str := repS "a" 401
/-- one of the law's values that are no texts -/
def OddRaw (H : Hp) (v : V) : Prop := v = .non ∨ v = .int 0 ∨ (∃ a, v = .ref a ∧ H a = some (.tup [.str "a"])) ∨ (∃ a, v = .ref a ∧ H a = some (.lst [.str "a"])) ∨
  (∃ z : Str, v = .str z ∧ (z = "A" ∨ z = "a b" ∨ z = "a1" ∨ z = "a\n")) ∨ (∃ a, v = .ref a ∧ H a = some (.dK [])) ∨ v = .bl true ∨ v = .str bigA
theorem OddRaw.same {H H' : Hp} {v : V} (h : OddRaw H v) (s : Same H H') : OddRaw H' v := by
  rcases h with h | h | ⟨a, e, h⟩ | ⟨a, e, h⟩ | h | ⟨a, e, h⟩ | h | h
  · exact .inl h
  · exact .inr (.inl h)
  · exact .inr (.inr (.inl ⟨a, e, s _ _ h⟩))
  · exact .inr (.inr (.inr (.inl ⟨a, e, s _ _ h⟩)))
  · exact .inr (.inr (.inr (.inr (.inl h))))
  · exact .inr (.inr (.inr (.inr (.inr (.inl ⟨a, e, s _ _ h⟩)))))
  · exact .inr (.inr (.inr (.inr (.inr (.inr (.inl h))))))
  · exact .inr (.inr (.inr (.inr (.inr (.inr (.inr h))))))
theorem OddRaw.draw {H H' : Hp} {v : V} {p c : Addr} {ns : List Int} {n : Nat} (h : OddRaw H v) (gp : PenAt H p c ns n) (s : But p H H') : OddRaw H' v := by
  obtain ⟨t, g, hp, _⟩ := gp
  rcases h with h | h | ⟨a, e, h⟩ | ⟨a, e, h⟩ | h | ⟨a, e, h⟩ | h | h
  · exact .inl h
  · exact .inr (.inl h)
  · exact .inr (.inr (.inl ⟨a, e, s _ (fun z => by rw [z, hp] at h; cases h) _ h⟩))
  · exact .inr (.inr (.inr (.inl ⟨a, e, s _ (fun z => by rw [z, hp] at h; cases h) _ h⟩)))
  · exact .inr (.inr (.inr (.inr (.inl h))))
  · exact .inr (.inr (.inr (.inr (.inr (.inl ⟨a, e, s _ (fun z => by rw [z, hp] at h; cases h) _ h⟩)))))
  · exact .inr (.inr (.inr (.inr (.inr (.inr (.inl h))))))
  · exact .inr (.inr (.inr (.inr (.inr (.inr (.inr h))))))
theorem OddRaw.extN {H H' : Hp} {v : V} (h : OddRaw H v) (s : LamX.ExtN H H') : OddRaw H' v := by
  rcases h with h | h | ⟨a, e, h⟩ | ⟨a, e, h⟩ | h | ⟨a, e, h⟩ | h | h
  · exact .inl h
  · exact .inr (.inl h)
  · exact .inr (.inr (.inl ⟨a, e, s _ _ h (fun _ z => by cases z)⟩))
  · exact .inr (.inr (.inr (.inl ⟨a, e, s _ _ h (fun _ z => by cases z)⟩)))
  · exact .inr (.inr (.inr (.inr (.inl h))))
  · exact .inr (.inr (.inr (.inr (.inr (.inl ⟨a, e, s _ _ h (fun _ z => by cases z)⟩)))))
  · exact .inr (.inr (.inr (.inr (.inr (.inr (.inl h))))))
  · exact .inr (.inr (.inr (.inr (.inr (.inr (.inr h))))))
theorem bigA_list : bigA.cps.toList = List.replicate 401 97 := repS_one 97 401
theorem bigA_len : bigA.length = 401 := by
  have := congrArg List.length bigA_list
  rw [Array.length_toList, List.length_replicate] at this
  exact this
theorem bigA_ok : okL 0 401 bigA = true := by
  unfold okL
  rw [bigA_len, bigA_list]
  simp only [Bool.and_eq_true, decide_eq_true_eq, List.all_eq_true]
  refine ⟨by decide, by decide, fun x hx => ?_⟩
  rw [(List.mem_replicate.mp hx).2]
  decide +kernel
theorem OddRaw.bad {K : PySem.W.Frag} {H : Hp} {v : V} (h : OddRaw H v) : ∃ t, ∀ H0, LamX.ExtN H H0 → BadW K H0 v ∧ ShwE K H0 v t ∧ PyData.strOk t = true := by
  rcases h with rfl | rfl | ⟨a, rfl, h⟩ | ⟨a, rfl, h⟩ | ⟨z, rfl, h⟩ | ⟨a, rfl, h⟩ | rfl | rfl
  · exact ⟨_, fun H0 m => ⟨.inr ⟨_, fun H' s => .non, kit_ty (by decide +kernel)⟩, fun H' s => ⟨_, .non, rfl, by decide, by decide, rfl⟩, by decide +kernel⟩⟩
  · exact ⟨_, fun H0 m => ⟨.inr ⟨_, fun H' s => .int 0, kit_ty (by decide +kernel)⟩, fun H' s => ⟨_, .int 0, rfl, by decide, by decide +kernel, rfl⟩, by decide +kernel⟩⟩
  · exact ⟨_, fun H0 m => ⟨.inr ⟨_, fun H' s => .tup (s _ _ (m _ _ h (fun _ z => by cases z))), kit_ty (by decide +kernel)⟩, fun H' s => ⟨_, .tup (SqT.of (s _ _ (m _ _ h (fun _ z => by cases z)))) (.cons (.str "a") .nil), rfl, by decide, by decide +kernel, rfl⟩, by decide +kernel⟩⟩
  · exact ⟨_, fun H0 m => ⟨.inr ⟨_, fun H' s => .lst (s _ _ (m _ _ h (fun _ z => by cases z))), kit_ty (by decide +kernel)⟩, fun H' s => ⟨_, .lst (SqL.of (s _ _ (m _ _ h (fun _ z => by cases z)))) (.cons (.str "a") .nil), rfl, by decide, by decide +kernel, rfl⟩, by decide +kernel⟩⟩
  · rcases h with rfl | rfl | rfl | rfl
    · exact ⟨_, fun H0 m => ⟨.inl ⟨_, rfl, by decide +kernel, by decide +kernel⟩, fun H' s => ⟨_, .str _, rfl, by decide, by decide +kernel, rfl⟩, by decide +kernel⟩⟩
    · exact ⟨_, fun H0 m => ⟨.inl ⟨_, rfl, by decide +kernel, by decide +kernel⟩, fun H' s => ⟨_, .str _, rfl, by decide, by decide +kernel, rfl⟩, by decide +kernel⟩⟩
    · exact ⟨_, fun H0 m => ⟨.inl ⟨_, rfl, by decide +kernel, by decide +kernel⟩, fun H' s => ⟨_, .str _, rfl, by decide, by decide +kernel, rfl⟩, by decide +kernel⟩⟩
    · exact ⟨_, fun H0 m => ⟨.inl ⟨_, rfl, by decide +kernel, by decide +kernel⟩, fun H' s => ⟨_, .str _, rfl, by decide, by decide +kernel, rfl⟩, by decide +kernel⟩⟩
  · exact ⟨_, fun H0 m => ⟨.inr ⟨_, fun H' s => .dK (s _ _ (m _ _ h (fun _ z => by cases z))), kit_ty (by decide +kernel)⟩, fun H' s => ⟨_, .dic (s _ _ (m _ _ h (fun _ z => by cases z))) .nil, rfl, by decide, by decide +kernel, rfl⟩, by decide +kernel⟩⟩
  · exact ⟨_, fun H0 m => ⟨.inr ⟨_, fun H' s => .bl true, kit_ty (by decide +kernel)⟩, fun H' s => ⟨_, .bl true, rfl, by decide, by decide +kernel, rfl⟩, by decide +kernel⟩⟩
  · refine ⟨_, fun H0 m => ⟨.inl ⟨_, rfl, by rw [bigA_len]; decide, ?_⟩, fun H' s => Shw.str bigA ?_, ok_repr bigA_ok⟩⟩
    · unfold isTxt okL
      rw [bigA_len]
      rfl
    · have := StrLaws.reprText_len bigA fun c hc => by
        rw [bigA_list] at hc
        rw [(List.mem_replicate.mp hc).2]
        decide
      rw [bigA_len] at this
      exact Nat.le_trans this (by decide)
/-- one of the law's values that are no converters -/
def OddC (H : Hp) (v : V) : Prop := v = .non ∨ v = .int 0 ∨ (∃ z, v = .str z) ∨ (∃ a, v = .ref a ∧ H a = some (.dK [])) ∨ (∃ a xs, v = .ref a ∧ H a = some (.lst xs) ∧ ∃ x, xs = [.ref x]) ∨ v = .bl true
theorem OddC.extN {H H' : Hp} {v : V} (h : OddC H v) (s : LamX.ExtN H H') : OddC H' v := by
  rcases h with h | h | h | ⟨a, e, h⟩ | ⟨a, xs, e, h, r⟩ | h
  · exact .inl h
  · exact .inr (.inl h)
  · exact .inr (.inr (.inl h))
  · exact .inr (.inr (.inr (.inl ⟨a, e, s _ _ h (fun _ z => by cases z)⟩)))
  · exact .inr (.inr (.inr (.inr (.inl ⟨a, xs, e, s _ _ h (fun _ z => by cases z), r⟩))))
  · exact .inr (.inr (.inr (.inr (.inr h))))
theorem OddC.draw {H H' : Hp} {v : V} {p c : Addr} {ns : List Int} {n : Nat} (h : OddC H v) (gp : PenAt H p c ns n) (s : But p H H') : OddC H' v := by
  obtain ⟨t, g, hp, _⟩ := gp
  rcases h with h | h | h | ⟨a, e, h⟩ | ⟨a, xs, e, h, x, r⟩ | h
  · exact .inl h
  · exact .inr (.inl h)
  · exact .inr (.inr (.inl h))
  · exact .inr (.inr (.inr (.inl ⟨a, e, s _ (fun z => by rw [z, hp] at h; cases h) _ h⟩)))
  · exact .inr (.inr (.inr (.inr (.inl ⟨a, xs, e, s _ (fun z => by rw [z, hp, r] at h; have h2 := HO.lst.inj (Option.some.inj h); cases h2) _ h, x, r⟩))))
  · exact .inr (.inr (.inr (.inr (.inr h))))
theorem OddC.bad {K : PySem.W.Frag} {mg : Str → Option Value} (TM : TxM K mg) {H : Hp} {v : V} (h : OddC H v) : BadC K (gC mg) H v := by
  rcases h with rfl | rfl | ⟨z, rfl⟩ | ⟨a, rfl, h⟩ | ⟨a, xs, rfl, h, r⟩ | rfl
  · exact ⟨_, fun H' s => .base .non, TM.kN _ (by decide)⟩
  · exact ⟨_, fun H' s => .base (.int 0), TM.kN _ (by decide)⟩
  · exact ⟨_, fun H' s => .base (.str z), TM.kN _ (by decide)⟩
  · exact ⟨_, fun H' s => .base (.dK (s _ _ h)), TM.kN _ (by decide)⟩
  · exact ⟨_, fun H' s => .base (.lst (s _ _ h)), TM.kN _ (by decide)⟩
  · exact ⟨_, fun H' s => .base (.bl true), TM.kN _ (by decide)⟩
def tabs (PL : Addr) : List (Addr × Str) := [(PL, "law.<locals>.<lambda>")]
/-- how things stand in a lap -/
structure Wd (K : PySem.W.Frag) (mg : Str → Option Value) (PL p c q x : Addr) (ns : List Int) (G : Hp) (n : Nat) (s : Str) (st : List StE) (tl : List (Str × Str)) : Prop where
  gp : PenAt G p c ns n
  pl : PlAt K G q s st tl
  cv : CvAt K (gC mg) G x s st tl
  tb : LamX.Tabs (tabs PL) G
section
variable {K : PySem.W.Frag} {mg : Str → Option Value} {PL p c q x : Addr} {ns : List Int} {G G' : Hp} {n m : Nat} {s : Str} {st : List StE} {tl : List (Str × Str)}
theorem Wd.same (h : Wd K mg PL p c q x ns G n s st tl) (e : Same G G') : Wd K mg PL p c q x ns G' n s st tl := ⟨h.gp.same e, h.pl.same e, h.cv.same e, h.tb.ext e⟩
theorem Wd.extN (h : Wd K mg PL p c q x ns G n s st tl) (e : LamX.ExtN G G') (tb : LamX.Tabs (tabs PL) G') : Wd K mg PL p c q x ns G' n s st tl := ⟨h.gp.extN e, PlAt.extN h.pl e, CvAt.extN h.cv e, tb⟩
theorem Wd.draw (h : Wd K mg PL p c q x ns G n s st tl) (gp : PenAt G' p c ns m) (b : But p G G') : Wd K mg PL p c q x ns G' m s st tl := by
  obtain ⟨xs, e⟩ := h.gp.lst
  exact ⟨gp, h.pl.but h.gp.lst b, h.cv.but h.gp.lst b, tabs_but h.tb e (fun _ z => by cases z) (fun _ _ z => by cases z) b⟩
theorem Wd.mono (h : Wd K mg PL p c q x ns G n s st tl) (le : n ≤ m) : Wd K mg PL p c q x ns G m s st tl := ⟨h.gp.mono le, h.pl, h.cv, h.tb⟩
end
end KC

namespace KC
open PySem L2 PyProof.Rows
/-! the lone one -/
def lst : List StE := [(("s", "a"), ("abcd", "s")), (("s", "b"), ("", "s"))]
theorem ok_lone : OkParts "s" lst [] where
  os := by decide +kernel
  ost := by
    intro e he
    simp only [lst, List.mem_cons, List.not_mem_nil, or_false] at he
    rcases he with rfl | rfl
    · exact ⟨by decide +kernel, by decide +kernel, by decide +kernel, by decide +kernel⟩
    · exact ⟨by decide +kernel, by decide +kernel, by decide +kernel, by decide +kernel⟩
  lst := by decide
  otl := by
    intro e he
    cases he
  ltl := by decide
  n6 := by decide +kernel
  l4 := by decide +kernel
def loneZ : Str := repS "a" 200 ++ repS "b" 200
theorem loneZ_list : loneZ.cps.toList = List.replicate 200 97 ++ List.replicate 200 98 := by
  have e : loneZ.cps.toList = (repS "a" 200).cps.toList ++ (repS "b" 200).cps.toList := by
    show ((repS "a" 200).cps ++ (repS "b" 200).cps).toList = _
    exact Array.toList_append
  rw [e, show (repS "a" 200).cps.toList = List.replicate 200 97 from repS_one 97 200, show (repS "b" 200).cps.toList = List.replicate 200 98 from repS_one 98 200]
theorem repS_len (c n : Nat) (z : Str) (h : z = ⟨#[c]⟩) : (repS z n).length = n := by
  subst h
  have := congrArg List.length (repS_one c n)
  rw [Array.length_toList, List.length_replicate] at this
  exact this
theorem loneZ_len : loneZ.length = 400 := by
  have := congrArg List.length loneZ_list
  rw [Array.length_toList, List.length_append, List.length_replicate, List.length_replicate] at this
  exact this
theorem loneZ_txt : isTxt loneZ = true := by
  unfold isTxt okL
  rw [loneZ_len, loneZ_list]
  simp only [Bool.and_eq_true, decide_eq_true_eq, List.all_eq_true]
  refine ⟨by decide, by decide, fun x hx => ?_⟩
  rcases List.mem_append.mp hx with hx | hx <;> rw [(List.mem_replicate.mp hx).2] <;> decide +kernel
theorem Wk.rep {st : List StE} {s a : Str} {c : Nat} (h : stepOf st s ⟨#[c]⟩ = some (a, s)) : ∀ n : Nat, Wk st s (List.replicate n c) (List.replicate n (a, s)) s
  | 0 => .nil s
  | n + 1 => by
    rw [List.replicate_succ, List.replicate_succ]
    exact .cons h (Wk.rep h n)
theorem Wk.app {st : List StE} {s e e2 : Str} {cs cs2 : List Nat} {ws ws2 : List (Str × Str)} (h : Wk st s cs ws e) : Wk st e cs2 ws2 e2 → Wk st s (cs ++ cs2) (ws ++ ws2) e2 := by
  induction h with
  | nil s => exact fun k => k
  | cons h1 _ ih => exact fun k => .cons h1 (ih k)
def loneW : List (Str × Str) := List.replicate 200 (("abcd" : Str), ("s" : Str)) ++ List.replicate 200 (("" : Str), ("s" : Str))
theorem lone_wk : Wk lst "s" loneZ.cps.toList loneW "s" := by
  rw [loneZ_list]
  exact (Wk.rep (show stepOf lst "s" ⟨#[97]⟩ = some (("abcd" : Str), ("s" : Str)) by decide +kernel) 200).app (Wk.rep (show stepOf lst "s" ⟨#[98]⟩ = some (("" : Str), ("s" : Str)) by decide +kernel) 200)
theorem hts_get : ∀ (ws : List (Str × Str)) (h : Int) (i : Nat), i ≤ ws.length → (hts h ws)[i]? = some (h + (lenW (ws.take i) : Nat) - (i : Nat))
  | ws, h, 0, _ => by
    cases ws with
    | nil => simp [hts, lenW]
    | cons p ws =>
      unfold hts
      simp [lenW]
  | [], h, i + 1, hi => by simp at hi
  | p :: ws, h, i + 1, hi => by
    unfold hts
    rw [List.getElem?_cons_succ, hts_get ws _ i (by simpa using hi), List.take_succ_cons, lenW_cons]
    congr 1
    push_cast
    omega
theorem lenW_rep (a s : Str) : ∀ n : Nat, lenW (List.replicate n (a, s)) = n * a.length
  | 0 => by simp [lenW]
  | n + 1 => by
    rw [List.replicate_succ, lenW_cons, lenW_rep a s n, Nat.succ_mul]
    dsimp only
    omega
theorem lenW_app : ∀ (w1 w2 : List (Str × Str)), lenW (w1 ++ w2) = lenW w1 + lenW w2
  | [], w2 => by
    show lenW w2 = 0 + lenW w2
    omega
  | p :: w1, w2 => by
    rw [List.cons_append, lenW_cons, lenW_cons, lenW_app]
    omega
theorem loneW_len : loneW.length = 400 := by
  unfold loneW
  rw [List.length_append, List.length_replicate, List.length_replicate]
theorem lone_200 : (hts 0 loneW)[200]? = some 600 := by
  rw [hts_get loneW 0 200 (by rw [loneW_len]; omega)]
  have : loneW.take 200 = List.replicate 200 (("abcd" : Str), ("s" : Str)) := by
    unfold loneW
    rw [List.take_append_of_le_length (by rw [List.length_replicate]; exact Nat.le_refl _), List.take_of_length_le (by rw [List.length_replicate]; exact Nat.le_refl _)]
  rw [this, lenW_rep]
  rfl
theorem lone_400 : (hts 0 loneW)[400]? = some 400 := by
  rw [hts_get loneW 0 400 (by rw [loneW_len]; omega), List.take_of_length_le (by rw [loneW_len]; omega)]
  unfold loneW
  rw [lenW_app, lenW_rep, lenW_rep]
  rfl
theorem lone_pick : pickS ((hts 0 loneW).map V.int) 200 200 = [.int 600, .int 400] := by
  have hl : ((hts 0 loneW).map V.int).length = 401 := by rw [List.length_map, hts_len, loneW_len]
  unfold pickS
  rw [hl, show plcS 200 200 401 = 2 by decide +kernel, show adjS 200 200 401 = 200 by decide +kernel]
  show [0, 1].filterMap (fun (k : Nat) => ((hts 0 loneW).map V.int)[((200 : Int) + (k : Int) * 200).toNat]?) = _
  rw [List.filterMap_cons, List.filterMap_cons, List.filterMap_nil]
  rw [show ((200 : Int) + ((0 : Nat) : Int) * 200).toNat = 200 by decide, show ((200 : Int) + ((1 : Nat) : Int) * 200).toNat = 400 by decide]
  rw [List.getElem?_map, List.getElem?_map, lone_200, lone_400]
  rfl
/-- no error comes -/
theorem pre_lone {K : PySem.W.Frag} {mg : Str → Option Value} {H : Hp} {E : XK} {x : Addr} {s e : Str} {st : List StE} {tl ws : List (Str × Str)} {z : Str} {OK : Str → List (Str × Str) → Prop} (cv : CvAt K (gC mg) H x s st tl) (ok : OkParts s st tl) (hz : isTxt z = true)
    (wk : Wk st s z.cps.toList ws e) (k : OK s ws) : PreA K mg (.ref x) (.str z) H E OK :=
  .inr ⟨x, s, st, tl, rfl, cv, ok, .inr ⟨z, rfl, hz, fun i c w1 e' hc wk' hn => (no_pass hc wk' hn wk).elim, fun ws' e' _ wk' => by
    obtain ⟨rfl, rfl⟩ := wk.uniq wk'
    exact k⟩⟩
end KC

namespace KC
open PySem L2 PyProof.Rows
theorem Wk.names {st : List StE} (ok : ∀ e ∈ st, okStep e) {s e : Str} {cs : List Nat} {ws : List (Str × Str)} (h : Wk st s cs ws e) : isName s = true → isName e = true ∧ ∀ y ∈ sts s ws, PyData.strOk y = true := by
  induction h with
  | nil s => exact fun hs => ⟨hs, fun y hy => by rw [List.mem_singleton.mp hy]; exact ok_let hs⟩
  | cons h1 _ ih =>
    intro hs
    obtain ⟨a1, a2⟩ := ih (stepOf_ok h1 ok).2
    refine ⟨a1, fun y hy => ?_⟩
    rcases List.mem_cons.mp hy with rfl | hy
    · exact ok_let hs
    · exact a2 y hy
section
variable {P : Program} {w : World} {K : PySem.W.Frag} {mg : Str → Option Value} {base : Heap}
def spLaw (K : PySem.W.Frag) (PL : Addr) : Sp := fun vs H Q _ => ∃ (a : Addr) (ns : List Int), vs = [.ref a] ∧ SqL K H a (ns.map V.int) ∧ ns.length ≤ 63 ∧ LamX.Tabs (tabs PL) H ∧ ∀ H', Q (.bl true) H'
theorem law_g (TA : TxA K mg) (TH : TxH K mg) (RZ : ∀ base, ErrR P w K mg base) {PL : Addr}
    {f0 : Addr} {fd : FuncData} {c0 : Addr} (F : FunC K "law" "law" s_law f0 fd (.ref c0)) (TB : LamX.TabB base mg c0 PL) : FnG P w K mg base CX0 9 f0 fd ["_law_script"] (spLaw K PL) := by
  have TM := TA.M
  have T := TM.C.T
  have RZ := RZ base
  refine F.okG sc_law (fun vs H Q E h => ?_) (fun A outer s H vs Q E hA hr h => ?_)
  · obtain ⟨a, ns, rfl, _⟩ := h
    rfl
  · obtain ⟨a, ns, rfl, hs, hlen, tb, k⟩ := h
    have hmT : (PL, (cxOf CX0 P w K mg base n_law "law" (defScope s_law) f0 (.ref c0) A outer s H E).nox.env.qual ++ "<lambda>") ∈ tabs PL := List.mem_cons_self
    have huT : ∀ q ∈ tabs PL, q.1 = PL → q.2 = (cxOf CX0 P w K mg base n_law "law" (defScope s_law) f0 (.ref c0) A outer s H E).nox.env.qual ++ "<lambda>" := by
      intro q hq e
      rcases List.mem_cons.mp hq with rfl | hq
      · rfl
      · cases hq
    refine ⟨_, (pss_cons (ps_set (i := 1) sc_law.nd rfl (Or.inl rfl) (pe_kf (kp_pen T) hA hr (by rfl) (pa_cons (pv 0) pa_nil)))
 (pss_cons (ps_for PassesOwn.never rfl (pi_range1 (by rfl) (T.nb _ (by decide)) (pa_cons (pe_int) pa_nil)) (pg_name (i := 2) sc_law.nd rfl (Or.inl rfl))
 (pss_cons (ps_set (i := 3) sc_law.nd rfl (Or.inl rfl) (pe_kf (kp_plan T) hA hr (by rfl) (pa_cons (pv 1) (pa_cons (pe_int) pa_nil))))
 (pss_cons (ps_set (i := 4) sc_law.nd rfl (Or.inr rfl) (pe_kf (kp_made TM) hA hr (by rfl) (pa_cons (pv 3) pa_nil)))
 (pss_cons (ps_for PassesOwn.never rfl (pi_range1 (by rfl) (T.nb _ (by decide)) (pa_cons (pe_int) pa_nil)) (pg_name (i := 5) sc_law.nd rfl (Or.inl rfl))
 (pss_cons (ps_set (i := 6) sc_law.nd rfl (Or.inr rfl) (pe_kf (kp_ltext T) hA hr (by rfl) (pa_cons (pv 1) (pa_cons (pv 3) (pa_cons (pe_int) pa_nil)))))
 (pss_cons (ps_set (i := 7) sc_law.nd rfl (Or.inl rfl) (pe_kf (kp_run T) hA hr (by rfl) (pa_cons (pv 3) (pa_cons (pv 6) pa_nil))))
 (pss_cons (ps_set (i := 8) sc_law.nd rfl (Or.inl rfl) (pe_lst (pa_cons (pe_heard TH hA hr (by rfl) TB rfl hmT huT (LamX.lamS_by (sc := defScope s_law) (by decide +kernel)) (by rfl) (fun _ _ _ _ _ => by rfl) (fun A outer s H E f c' hr2 => (pe_kfX (kp_runF TA RZ) hr2 (passes_call (takes_of rfl rfl rfl rfl) (fun _ _ _ _ h => h)) (by rfl) (pa_cons (pv 4) (pa_cons (pv 6) pa_nil))))) pa_nil)))
 (pss_cons (ps_expr (pe_bm PySem.F.plainAttrs_list PySem.F.slot_list_append PySem.F.type_list_append mt_append (pv 8) (pa_cons (pe_heard TH hA hr (by rfl) TB rfl hmT huT (LamX.lamS_by (sc := defScope s_law) (by decide +kernel)) (by rfl) (fun _ _ _ _ _ => by rfl) (fun A outer s H E f c' hr2 => (pe_kfXV (kp_climbs TA RZ).2 hr2 (passes_call (takes_of rfl rfl rfl rfl) (fun _ _ _ _ h => h)) (by rfl) (pk_cons (pv 6) (pk_cons (pv 4) pk_nil)) sp_climbs_len))) pa_nil)))
 (pss_cons (ps_set (i := 9) sc_law.nd rfl (Or.inl rfl) (pe_op op_rep (pe_lst (pa_cons (pe_tup (pa_cons (pe_str) (pa_cons (pe_op op_sub (pe_callB call_len (by rfl) (T.nb _ (by decide)) PySem.boot_len (pa_cons (pv 7) pa_nil)) (pe_int)) (pa_cons (pe_ix (ix_list : IxR _ (rIxL K)) (pv 7) (pe_un un_neg (pe_int)) (fun _ _ => rfl)) pa_nil)))) pa_nil)) (pe_int)))
 (pss_cons (ps_if (pt_cmpR op_gt (pe_callB call_len (by rfl) (T.nb _ (by decide)) PySem.boot_len (pa_cons (pv 7) pa_nil)) (pe_callB call_len (by rfl) (T.nb _ (by decide)) PySem.boot_len (pa_cons (pv 6) pa_nil)) (nomark _))
 (pss_one (ps_set (i := 9) sc_law.nd rfl (Or.inl rfl) (pe_lst (pa_cons (pe_lst (pa_cons (pe_callTy call_tuple_of (by rfl) (T.nb _ (by decide)) (by decide +kernel) (pa_cons (pv 7) pa_nil)) pa_nil)) (pa_cons (pe_lst (pa_cons (pe_callTy call_tuple_of (by rfl) (T.nb _ (by decide)) (by decide +kernel) (pa_cons (pe_kf (kp_lheights T) hA hr (by rfl) (pa_cons (pv 3) (pa_cons (pv 7) (pa_cons (pv 6) pa_nil)))) pa_nil)) pa_nil)) pa_nil))))) pss_nil)
 (pss_one (ps_if (pt_cmpR (op_neD hr.units) (pv 8) (pv 9) (nomark _))
 (pss_one (ps_ret (pe_bl))) pss_nil)))))))))
 (pss_cons (ps_set (i := 10) sc_law.nd rfl (Or.inr rfl) (pe_kf (kp_pick T) hA hr (by rfl) (pa_cons (pv 1) (pa_cons (pe_lst (pa_cons (pe_non) (pa_cons (pe_int) (pa_cons (pe_str) (pa_cons (pe_dnewK) (pa_cons (pe_lst (pa_cons (pv 4) pa_nil)) (pa_cons (pe_bl) pa_nil))))))) pa_nil))))
 (pss_cons (ps_set (i := 11) sc_law.nd rfl (Or.inr rfl) (pe_kf (kp_pick T) hA hr (by rfl) (pa_cons (pv 1) (pa_cons (pe_lst (pa_cons (pe_non) (pa_cons (pe_int) (pa_cons (pe_str) (pa_cons (pe_str) (pa_cons (pe_lst (pa_cons (pe_str) pa_nil)) (pa_cons (pe_tup (pa_cons (pe_str) pa_nil)) (pa_cons (pe_str) (pa_cons (pe_op op_repS (pe_str) (pe_int)) (pa_cons (pe_dnewK) (pa_cons (pe_bl) pa_nil))))))))))) pa_nil))))
 (pss_cons (ps_set (i := 8) sc_law.nd rfl (Or.inl rfl) (pe_lst (pa_cons (pe_heard TH hA hr (by rfl) TB rfl hmT huT (LamX.lamS_by (sc := defScope s_law) (by decide +kernel)) (by rfl) (fun _ _ _ _ _ => by rfl) (fun A outer s H E f c' hr2 => (pe_kfX (kp_runF TA RZ) hr2 (passes_call (takes_of rfl rfl rfl rfl) (fun _ _ _ _ h => h)) (by rfl) (pa_cons (pv 10) (pa_cons (pv 11) pa_nil))))) pa_nil)))
 (pss_cons (ps_expr (pe_bm PySem.F.plainAttrs_list PySem.F.slot_list_append PySem.F.type_list_append mt_append (pv 8) (pa_cons (pe_heard TH hA hr (by rfl) TB rfl hmT huT (LamX.lamS_by (sc := defScope s_law) (by decide +kernel)) (by rfl) (fun _ _ _ _ _ => by rfl) (fun A outer s H E f c' hr2 => (pe_kfX (kp_climbs TA RZ).1 hr2 (passes_call (takes_of rfl rfl rfl rfl) (fun _ _ _ _ h => h)) (by rfl) (pa_cons (pv 10) (pa_cons (pv 11) pa_nil))))) pa_nil)))
 (pss_cons (ps_expr (pe_bm PySem.F.plainAttrs_list PySem.F.slot_list_append PySem.F.type_list_append mt_append (pv 8) (pa_cons (pe_heard TH hA hr (by rfl) TB rfl hmT huT (LamX.lamS_by (sc := defScope s_law) (by decide +kernel)) (by rfl) (fun _ _ _ _ _ => by rfl) (fun A outer s H E f c' hr2 => (pe_kfX (kp_runF TA RZ) hr2 (passes_call (takes_of rfl rfl rfl rfl) (fun _ _ _ _ h => h)) (by rfl) (pa_cons (pv 4) (pa_cons (pv 11) pa_nil))))) pa_nil)))
 (pss_cons (ps_expr (pe_bm PySem.F.plainAttrs_list PySem.F.slot_list_append PySem.F.type_list_append mt_append (pv 8) (pa_cons (pe_heard TH hA hr (by rfl) TB rfl hmT huT (LamX.lamS_by (sc := defScope s_law) (by decide +kernel)) (by rfl) (fun _ _ _ _ _ => by rfl) (fun A outer s H E f c' hr2 => (pe_kfX (kp_climbs TA RZ).1 hr2 (passes_call (takes_of rfl rfl rfl rfl) (fun _ _ _ _ h => h)) (by rfl) (pa_cons (pv 4) (pa_cons (pv 11) pa_nil))))) pa_nil)))
 (pss_one (ps_if (pt_cmpR (op_neD hr.units) (pv 8) (pe_op op_cat (pe_op op_rep (pe_lst (pa_cons (pe_tup (pa_cons (pe_str) (pa_cons (pe_str) pa_nil))) pa_nil)) (pe_int)) (pe_op op_rep (pe_lst (pa_cons (pe_tup (pa_cons (pe_str) (pa_cons (pe_callB (call_reprV hA hr.units) (by rfl) (T.nb _ (by decide)) (by decide +kernel) (pa_cons (pv 11) pa_nil)) pa_nil))) pa_nil)) (pe_int))) (nomark _))
 (pss_one (ps_ret (pe_bl))) pss_nil))))))))))))
 (pss_cons (ps_set (i := 12) sc_law.nd rfl (Or.inl rfl) (pe_kmkN (kp_init TM.C) hr rfl TM.C.mgC (pa_cons (pe_str) (pa_cons (pe_dispT2 (hu2_of hr) (pe_tup (pa_cons (pe_str) (pa_cons (pe_str) pa_nil))) (pe_tup (pa_cons (pe_str) (pa_cons (pe_str) pa_nil))) (pe_tup (pa_cons (pe_str) (pa_cons (pe_str) pa_nil))) (pe_tup (pa_cons (pe_str) (pa_cons (pe_str) pa_nil)))) (pa_cons (pe_dnewK) pa_nil)))))
 (pss_one (ps_ret ((pe_and (pe_cmpR (op_eqD hr.units) (pe_sl3 (pe_kfX (kp_climbs TA RZ).1 hr passL (by rfl) (pa_cons (pv 12) (pa_cons (pe_op op_add_str (pe_op op_repS (pe_str) (pe_int)) (pe_op op_repS (pe_str) (pe_int))) pa_nil))) (pe_int) (pe_int)) (pe_tup (pa_cons (pe_int) (pa_cons (pe_int) pa_nil))) (nomark _)) (pe_and (pe_cmpR (op_eqD hr.units) (pe_kfX (kp_runF TA RZ) hr passL (by rfl) (pa_cons (pv 12) (pa_cons (pe_str) pa_nil))) (pe_tup (pa_cons (pe_str) pa_nil)) (nomark _)) (pe_one (pe_cmpR (op_eqD hr.units) (pe_kfX (kp_climbs TA RZ).1 hr passL (by rfl) (pa_cons (pv 12) (pa_cons (pe_str) pa_nil))) (pe_tup (pa_cons (pe_int) pa_nil)) (nomark _))))))))))), ?_⟩
    refine ⟨_, rfl, a, ns, rfl, hs, hlen, fun p c H1 hp0 hc0 s1 hp => ?_⟩
    have tb1 := tb.ext s1
    refine ⟨_, rfl, by decide, by decide, ?_⟩
    refine for_it (walk_range (lo := 0) (n := 6)) (fun i σ H' => ∃ (v2 v3 v4 v5 v6 v7 v8 v9 v10 v11 v12 : Option V), σ = [some (.ref a), some (.ref p), v2, v3, v4, v5, v6, v7, v8, v9, v10, v11, v12] ∧ PenAt H' p c ns (400 * i) ∧ LamX.Tabs (tabs PL) H')
      ⟨_, _, _, _, _, _, _, _, _, _, _, rfl, hp, tb1⟩ (fun _ _ _ _ _ => True.intro) ?_ ?_
    · rintro i xv σ G0 G hi ⟨v2, v3, v4, v5, v6, v7, v8, v9, v10, v11, v12, rfl, gp, gt⟩ ⟨rfl, ex⟩
      refine ⟨_, rfl, p, c, ns, _, rfl, gp, hlen, by omega, fun q s0 st tl G1 ok pl gp1 b1 l30 => ?_⟩
      obtain ⟨xs, exs⟩ := gp.lst
      have tb2 := tabs_but gt exs (fun _ z => by cases z) (fun _ _ z => by cases z) b1
      refine ⟨_, rfl, q, s0, st, tl, rfl, pl, ok, fun x G2 s2 cv => ?_⟩
      have W0 : Wd K mg PL p c q x ns G2 (400 * i + 100) s0 st tl := ⟨gp1.same s2, pl.same s2, cv, tb2.ext s2⟩
      refine ⟨_, rfl, by decide, by decide, ?_⟩
      refine for_it (walk_range (lo := 0) (n := 4)) (fun j σ H' => ∃ (v5 v6 v7 v8 v9 v10 v11 v12 : Option V), σ = [some (.ref a), some (.ref p), some xv, some (.ref q), some (.ref x), v5, v6, v7, v8, v9, v10, v11, v12] ∧ Wd K mg PL p c q x ns H' (400 * i + 100 + 50 * j) s0 st tl)
        ⟨_, _, _, _, _, _, _, _, rfl, W0⟩ (fun _ _ _ _ _ => True.intro) ?_ ?_
      · rintro j yv σ G30 G3 hj ⟨v5, v6, v7, v8, v9, v10, v11, v12, rfl, W⟩ ⟨rfl, ey⟩
        refine ⟨_, rfl, _, rfl, p, c, q, ns, _, s0, st, tl, rfl, W.gp, hlen, by omega, W.pl, ok, l30, fun z G4 hz zl gp4 b4 => ?_⟩
        have W1 := W.draw gp4 b4
        refine ⟨_, rfl, _, rfl, q, z, s0, st, tl, rfl, W1.pl, ok, hz, fun ii w1 e L G5 s5 gL lw wk fin => ?_⟩
        have l4 : z.length ≤ 20 := zl
        have hii : ii ≤ z.length := by
          rcases fin with h | ⟨cc, h, _⟩
          · omega
          · rcases Nat.lt_or_ge ii z.cps.toList.length with h2 | h2
            · rw [Array.length_toList] at h2
              exact Nat.le_of_lt h2
            · rw [List.getElem?_eq_none h2] at h
              cases h
        obtain ⟨en, sn⟩ := wk.names ok.ost ok.os
        obtain ⟨d1, d2, ask1, ask2, hd⟩ : ∃ d1 d2 : PyData, (∀ H', CvAt K (gC mg) H' x s0 st tl → Ask K mg H' (.ref x) (.str z) (fun s ws => (s :: ws.map (·.2)).map V.str) d1) ∧ (∀ H', CvAt K (gC mg) H' x s0 st tl → Ask K mg H' (.ref x) (.str z) (fun _ ws => (hts 0 ws).map V.int) d2) ∧
            ((ii < z.length ∧ d1 = .tuple [.str "step", .int (ii : Nat), .str e] ∧ d2 = d1) ∨ (ii = z.length ∧ d1 = .list [.tuple ((sts s0 w1).map PyData.str)] ∧ d2 = .list [.tuple ((hts 0 w1).map PyData.int)] ∧ Wk st s0 z.cps.toList w1 e)) := by
          rcases fin with h | ⟨cc, hcc, hn⟩
          · have wk' : Wk st s0 z.cps.toList w1 e := by
              rw [h, show z.length = z.cps.toList.length from (Array.length_toList).symm, List.take_length] at wk
              exact wk
            exact ⟨_, _, fun H' cv => .inr ⟨x, s0, st, tl, rfl, cv, ok, .inr ⟨z, rfl, hz, .inr ⟨w1, e, _, wk', flat_strs sn, rfl⟩⟩⟩, fun H' cv => .inr ⟨x, s0, st, tl, rfl, cv, ok, .inr ⟨z, rfl, hz, .inr ⟨w1, e, _, wk', flat_ints _, rfl⟩⟩⟩, .inr ⟨h, rfl, rfl, wk'⟩⟩
          · have hlt : ii < z.length := by
              rcases Nat.lt_or_ge ii z.cps.toList.length with h2 | h2
              · rw [Array.length_toList] at h2
                exact h2
              · rw [List.getElem?_eq_none h2] at hcc
                cases hcc
            exact ⟨_, _, fun H' cv => .inr ⟨x, s0, st, tl, rfl, cv, ok, .inr ⟨z, rfl, hz, .inl ⟨ii, cc, w1, e, hcc, wk, hn, ok_let en, rfl⟩⟩⟩, fun H' cv => .inr ⟨x, s0, st, tl, rfl, cv, ok, .inr ⟨z, rfl, hz, .inl ⟨ii, cc, w1, e, hcc, wk, hn, ok_let en, rfl⟩⟩⟩, .inl ⟨hlt, rfl, rfl⟩⟩
        have W2 := W1.same s5
        refine ⟨W2.tb, fun H6 m6 tb6 => ?_⟩
        have W3 := W2.extN m6 tb6
        have gL6 := m6 _ _ gL (fun _ z => by cases z)
        refine heard_run rfl rfl (ask1 _ W3.cv) (fun u1 H7 s7 lay1 fr1 => ?_)
        refine ⟨(by show 1 ≤ sizeLine; decide), fun L8 hL8 => ?_⟩
        have W4 := W3.same s7
        have gL7 := s7 _ _ gL6
        have m78 := extN_same (Same.new (u := .lst [u1]) hL8)
        have g8 : upd H7 L8 (.lst [u1]) L8 = some (.lst [u1]) := upd_same
        have W5 := W4.same (Same.new (u := .lst [u1]) hL8)
        generalize upd H7 L8 (.lst [u1]) = H8 at m78 g8 W5
        refine ⟨_, rfl, .inl ⟨rfl, _, SqL.of g8⟩, ⟨W5.tb, fun H9 m9 tb9 => ?_⟩⟩
        have W6 := W5.extN m9 tb9
        have g9 := m9 _ _ g8 (fun _ z => by cases z)
        refine heard_climbsV rfl rfl (ask2 _ W6.cv) (fun u2 H10 s10 lay2 fr2 => ?_)
        have g10 := s10 _ _ g9
        have tb10 := tb9.ext s10
        refine ⟨L8, [u1], u2, rfl, rfl, g10, (by show 1 < sizeLine; decide), ?_⟩
        have ne2 : u2 ≠ .ref L8 := fun z => by
          obtain ⟨a2, e2, n2⟩ := fr2
          rw [e2] at z
          rw [V.ref.inj z, g9] at n2
          cases n2
        have m711 := extN_over (u := .lst ([u1] ++ [u2])) (LamX.ExtN.refl H7) hL8 (m78.trans (m9.trans (extN_same s10)))
        have lay2' := lay2.updL (u := .lst ([u1] ++ [u2])) g10 ne2
        have tb11 := tabs_updL (u := .lst ([u1] ++ [u2])) tb10 g10
        have g11 : upd H10 L8 (.lst ([u1] ++ [u2])) L8 = some (.lst [u1, u2]) := upd_same
        generalize upd H10 L8 (.lst ([u1] ++ [u2])) = H11 at m711 lay2' tb11 g11
        have lay1' := lay1.extN m711
        have W7 := W4.extN m711 tb11
        have gL11 := m711 _ _ gL7 (fun _ z => by cases z)
        have sl : (sts s0 w1).length = ii + 1 := by
          unfold sts
          rw [List.length_cons, List.length_map, lw]
        refine ⟨_, rfl, .ref L, _, rfl, len_lst gL11, _, _, rfl, rfl, _, rfl, _, rfl, L, _, -1, .str e, rfl, rfl, SqL.of gL11, atI_lastS wk.last, (by show 3 ≤ sizeLine; decide), fun T1 hT1 => ?_⟩
        have s12 : Same H11 (upd H11 T1 (.tup [.str "step", .int (ii : Nat), .str e])) := Same.new hT1
        have ev : (.tup [.str (Str.ofString "step"), .int (((List.map V.str (sts s0 w1)).length : Nat) - 1 : Int), .str e] : HO) = .tup [.str "step", .int (ii : Nat), .str e] := by
          rw [List.length_map, sl]
          congr 3
          push_cast
          congr 1
          omega
        show (fun H12 => _) (upd H11 T1 (.tup [.str (Str.ofString "step"), .int (((List.map V.str (sts s0 w1)).length : Nat) - 1 : Int), .str e]))
        rw [ev]
        have gT : upd H11 T1 (.tup [.str "step", .int (ii : Nat), .str e]) T1 = some (.tup [.str "step", .int (ii : Nat), .str e]) := upd_same
        generalize upd H11 T1 (.tup [.str "step", .int (ii : Nat), .str e]) = H12 at s12 gT
        refine ⟨(by show 1 ≤ sizeLine; decide), fun M1 hM1 => ?_⟩
        have s13 := s12.trans (Same.new (u := .lst [.ref T1]) hM1)
        have gM1 : upd H12 M1 (.lst [.ref T1]) M1 = some (.lst [.ref T1]) := upd_same
        have gT := upd_new (u := .lst [.ref T1]) hM1 gT
        generalize upd H12 M1 (.lst [.ref T1]) = H13 at s13 gM1 gT
        refine ⟨M1, 2, [.ref T1], rfl, rfl, gM1, by decide, by decide, (by show 2 ≤ sizeLine; decide), fun M hM => ?_⟩
        have s14 := s13.trans (Same.new (u := .lst [.ref T1, .ref T1]) hM)
        have gM : upd H13 M (.lst [.ref T1, .ref T1]) M = some (.lst [.ref T1, .ref T1]) := upd_same
        have gT := upd_new (u := .lst [.ref T1, .ref T1]) hM gT
        show (fun H14 => _) (upd H13 M (.lst [.ref T1, .ref T1]))
        generalize upd H13 M (.lst [.ref T1, .ref T1]) = H14 at s14 gM gT
        have W8 := W7.same s14
        have gL14 := s14 _ _ gL11
        have g14 := s14 _ _ g11
        have lay1'' := lay1'.extN (extN_same s14)
        have lay2'' := lay2'.extN (extN_same s14)
        refine ⟨_, rfl, .ref L, _, rfl, len_lst gL14, _, rfl, .str z, _, rfl, ⟨Nat.le_trans (show z.length ≤ 20 from l4) (by decide), rfl⟩, _, _, rfl, rfl, _, rfl, ?_⟩
        rw [List.length_map, sl]
        rcases hd with ⟨hlt, hd1, hd2⟩ | ⟨heq, hd1, hd2, wk'⟩
        · rw [decide_eq_false (show ¬ ((z.length : Nat) : Int) < ((ii + 1 : Nat) : Int) by omega)]
          refine iteF ?_
          have fT : FlatAll [.str "step", .int (ii : Nat), .str e] [.str "step", .int (ii : Nat), .str e] := .cons (.str _ (by decide +kernel)) (.cons (.int _) (.cons (.str _ (ok_let en)) .nil))
          have layT : Lay H14 (.ref T1) d1 := .inl ⟨T1, _, _, rfl, gT, fT, hd1⟩
          rw [hd2] at lay2''
          obtain ⟨sh, eqq⟩ := lay_shaped (ds := [d1, d1]) fun d hd => by
            simp only [List.mem_cons, List.not_mem_nil, or_false, or_self] at hd
            rw [hd]
            exact lay1''.can
          refine ⟨_, rfl, _, rfl, _, _, .lst (SqL.of g14) (.cons lay1''.dp (.cons lay2''.dp .nil)), .lst (SqL.of gM) (.cons layT.dp (.cons layT.dp .nil)), sh, sh, _, rfl, ?_⟩
          rw [eqq]
          refine iteF ?_
          exact ⟨_, _, _, _, _, _, _, _, rfl, W8.mono (by omega)⟩
        · rw [decide_eq_true (show ((z.length : Nat) : Int) < ((ii + 1 : Nat) : Int) by omega)]
          refine iteT ?_
          refine ⟨_, rfl, L, _, rfl, .inl ⟨SqL.of gL14, fun R1 hR1 => ?_⟩⟩
          have s15 := s14.trans (Same.new (u := .tup ((sts s0 w1).map V.str)) hR1)
          have gR1 : upd H14 R1 (.tup ((sts s0 w1).map V.str)) R1 = some (.tup ((sts s0 w1).map V.str)) := upd_same
          generalize upd H14 R1 (.tup ((sts s0 w1).map V.str)) = H15 at s15 gR1
          refine ⟨(by show 1 ≤ sizeLine; decide), fun N1 hN1 => ?_⟩
          have s16 := s15.trans (Same.new (u := .lst [.ref R1]) hN1)
          have gR1 := upd_new (u := .lst [.ref R1]) hN1 gR1
          have gN1 : upd H15 N1 (.lst [.ref R1]) N1 = some (.lst [.ref R1]) := upd_same
          show (fun H16 => _) (upd H15 N1 (.lst [.ref R1]))
          generalize upd H15 N1 (.lst [.ref R1]) = H16 at s16 gR1 gN1
          refine ⟨_, rfl, _, rfl, _, rfl, q, L, z, s0, e, st, tl, w1, rfl, W7.pl.same s16, ok, hz, wk', s16 _ _ gL11, fun B H17 s17 gB => ?_⟩
          refine ⟨B, _, rfl, .inl ⟨SqL.of gB, fun R2 hR2 => ?_⟩⟩
          have s18 := s17.trans (Same.new (u := .tup ((hts 0 w1).map V.int)) hR2)
          have gR2 : upd H17 R2 (.tup ((hts 0 w1).map V.int)) R2 = some (.tup ((hts 0 w1).map V.int)) := upd_same
          generalize upd H17 R2 (.tup ((hts 0 w1).map V.int)) = H18 at s18 gR2
          refine ⟨(by show 1 ≤ sizeLine; decide), fun N2 hN2 => ?_⟩
          have s19 := s18.trans (Same.new (u := .lst [.ref R2]) hN2)
          have gR2 := upd_new (u := .lst [.ref R2]) hN2 gR2
          have gN2 : upd H18 N2 (.lst [.ref R2]) N2 = some (.lst [.ref R2]) := upd_same
          show (fun H19 => _) (upd H18 N2 (.lst [.ref R2]))
          generalize upd H18 N2 (.lst [.ref R2]) = H19 at s19 gR2 gN2
          refine ⟨(by show 2 ≤ sizeLine; decide), fun M2 hM2 => ?_⟩
          have s20 := s16.trans (s19.trans (Same.new (u := .lst [.ref N1, .ref N2]) hM2))
          have sN := s19.trans (Same.new (u := .lst [.ref N1, .ref N2]) hM2)
          have gR2 := upd_new (u := .lst [.ref N1, .ref N2]) hM2 gR2
          have gN2 := upd_new (u := .lst [.ref N1, .ref N2]) hM2 gN2
          have gM2 : upd H19 M2 (.lst [.ref N1, .ref N2]) M2 = some (.lst [.ref N1, .ref N2]) := upd_same
          show (fun H20 => _) (upd H19 M2 (.lst [.ref N1, .ref N2]))
          generalize upd H19 M2 (.lst [.ref N1, .ref N2]) = H20 at s20 sN gR2 gN2 gM2
          have W9 := W7.same s20
          have g20 := s20 _ _ g11
          have lay1x := lay1'.extN (extN_same s20)
          have lay2x := lay2'.extN (extN_same s20)
          have layA : Lay H20 (.ref N1) d1 := .inr ⟨N1, R1, _, _, rfl, sN _ _ gN1, sN _ _ gR1, flat_strs sn, hd1⟩
          have layB : Lay H20 (.ref N2) d2 := .inr ⟨N2, R2, _, _, rfl, gN2, gR2, flat_ints _, hd2⟩
          obtain ⟨sh, eqq⟩ := lay_shaped (ds := [d1, d2]) fun d hd => by
            simp only [List.mem_cons, List.not_mem_nil, or_false] at hd
            rcases hd with rfl | rfl
            · exact layA.can
            · exact layB.can
          refine ⟨_, rfl, _, rfl, _, _, .lst (SqL.of g20) (.cons lay1x.dp (.cons lay2x.dp .nil)), .lst (SqL.of gM2) (.cons layA.dp (.cons layB.dp .nil)), sh, sh, _, rfl, ?_⟩
          rw [eqq]
          refine iteF ?_
          exact ⟨_, _, _, _, _, _, _, _, rfl, W9.mono (by omega)⟩
      · rintro σ G3 ⟨v5, v6, v7, v8, v9, v10, v11, v12, rfl, W⟩
        refine ⟨_, rfl, fun a1 ha1 => ?_⟩
        have t1 : Same G3 (upd G3 a1 (.dK [])) := Same.new ha1
        have o1 : upd G3 a1 (.dK []) a1 = some (.dK []) := upd_same
        generalize upd G3 a1 (.dK []) = K1 at t1 o1
        refine ⟨_, rfl, (by show 1 ≤ sizeLine; decide), fun a2 ha2 => ?_⟩
        have t2 : Same G3 (upd K1 a2 (.lst [.ref x])) := t1.trans (Same.new ha2)
        have o1' := Same.new (u := .lst [.ref x]) ha2 _ _ o1
        have o2 : upd K1 a2 (.lst [.ref x]) a2 = some (.lst [.ref x]) := upd_same
        show (fun K2 => _) (upd K1 a2 (.lst [.ref x]))
        generalize upd K1 a2 (.lst [.ref x]) = K2 at t2 o1' o2
        refine ⟨(by show 6 ≤ sizeLine; decide), fun L hL => ?_⟩
        have hodd : ∀ v ∈ ([.non, .int 0, .str "@s s$", .ref a1, .ref a2, .bl true] : List V), OddC K2 v := by
          intro v hv
          simp only [List.mem_cons, List.not_mem_nil, or_false] at hv
          rcases hv with rfl | rfl | rfl | rfl | rfl | rfl
          · exact .inl rfl
          · exact .inr (.inl rfl)
          · exact .inr (.inr (.inl ⟨_, rfl⟩))
          · exact .inr (.inr (.inr (.inl ⟨_, rfl, o1'⟩)))
          · exact .inr (.inr (.inr (.inr (.inl ⟨_, _, rfl, o2, _, rfl⟩))))
          · exact .inr (.inr (.inr (.inr (.inr rfl))))
        have sL : Same K2 (upd K2 L (.lst [.non, .int 0, .str "@s s$", .ref a1, .ref a2, .bl true])) := Same.new hL
        have gL : upd K2 L (.lst [.non, .int 0, .str "@s s$", .ref a1, .ref a2, .bl true]) L = some (.lst [.non, .int 0, .str "@s s$", .ref a1, .ref a2, .bl true]) := upd_same
        have W1 := W.same (t2.trans sL)
        have nL : L ≠ p := ((W.gp.same t2).fresh hL).1
        show (fun K3 => _) (upd K2 L (.lst [.non, .int 0, .str "@s s$", .ref a1, .ref a2, .bl true]))
        generalize upd K2 L (.lst [.non, .int 0, .str "@s s$", .ref a1, .ref a2, .bl true]) = K3 at sL gL W1
        refine ⟨p, c, L, _, ns, _, rfl, W1.gp, hlen, gL, nL, (by show 0 < 6; decide), (by show 6 < 1000000; decide), by omega, fun vo G5 hv gp5 b5 => ?_⟩
        have od5 := ((hodd vo hv).extN (extN_same sL)).draw W1.gp b5
        have W2 := W1.draw gp5 b5
        clear hodd hv gL W1 sL
        refine ⟨_, rfl, (by show 1 ≤ sizeLine; decide), fun a3 ha3 => ?_⟩
        have t3 : Same G5 (upd G5 a3 (.lst [.str "a"])) := Same.new ha3
        have o3 : upd G5 a3 (.lst [.str "a"]) a3 = some (.lst [.str "a"]) := upd_same
        generalize upd G5 a3 (.lst [.str "a"]) = K4 at t3 o3
        refine ⟨(by show 1 ≤ sizeLine; decide), fun a4 ha4 => ?_⟩
        have t4 : Same G5 (upd K4 a4 (.tup [.str "a"])) := t3.trans (Same.new ha4)
        have o3' := Same.new (u := .tup [.str "a"]) ha4 _ _ o3
        have o4 : upd K4 a4 (.tup [.str "a"]) a4 = some (.tup [.str "a"]) := upd_same
        generalize upd K4 a4 (.tup [.str "a"]) = K5 at t4 o3' o4
        refine ⟨"a", 401, rfl, rfl, by decide, by decide, by decide, by decide, by decide, fun a5 ha5 => ?_⟩
        have t5 : Same G5 (upd K5 a5 (.dK [])) := t4.trans (Same.new ha5)
        have o3'' := Same.new (u := .dK []) ha5 _ _ o3'
        have o4' := Same.new (u := .dK []) ha5 _ _ o4
        have o5 : upd K5 a5 (.dK []) a5 = some (.dK []) := upd_same
        generalize upd K5 a5 (.dK []) = K6 at t5 o3'' o4' o5
        refine ⟨(by show 10 ≤ sizeLine; decide), fun L hL => ?_⟩
        have hodd : ∀ v ∈ ([.non, .int 0, .str "A", .str "a b", .ref a3, .ref a4, .str "a1", .str (repS "a" 401), .ref a5, .bl true] : List V), OddRaw K6 v := by
          intro v hv
          simp only [List.mem_cons, List.not_mem_nil, or_false] at hv
          rcases hv with rfl | rfl | rfl | rfl | rfl | rfl | rfl | rfl | rfl | rfl
          · exact .inl rfl
          · exact .inr (.inl rfl)
          · exact .inr (.inr (.inr (.inr (.inl ⟨_, rfl, .inl rfl⟩))))
          · exact .inr (.inr (.inr (.inr (.inl ⟨_, rfl, .inr (.inl rfl)⟩))))
          · exact .inr (.inr (.inr (.inl ⟨_, rfl, o3''⟩)))
          · exact .inr (.inr (.inl ⟨_, rfl, o4'⟩))
          · exact .inr (.inr (.inr (.inr (.inl ⟨_, rfl, .inr (.inr (.inl rfl))⟩))))
          · exact .inr (.inr (.inr (.inr (.inr (.inr (.inr rfl))))))
          · exact .inr (.inr (.inr (.inr (.inr (.inl ⟨_, rfl, o5⟩)))))
          · exact .inr (.inr (.inr (.inr (.inr (.inr (.inl rfl))))))
        have sL : Same K6 (upd K6 L (.lst [.non, .int 0, .str "A", .str "a b", .ref a3, .ref a4, .str "a1", .str (repS "a" 401), .ref a5, .bl true])) := Same.new hL
        have gL : upd K6 L (.lst [.non, .int 0, .str "A", .str "a b", .ref a3, .ref a4, .str "a1", .str (repS "a" 401), .ref a5, .bl true]) L = some (.lst [.non, .int 0, .str "A", .str "a b", .ref a3, .ref a4, .str "a1", .str (repS "a" 401), .ref a5, .bl true]) := upd_same
        have W3 := W2.same (t5.trans sL)
        have nL : L ≠ p := ((W2.gp.same t5).fresh hL).1
        have od6 := od5.extN (extN_same (t5.trans sL))
        show (fun K7 => _) (upd K6 L (.lst [.non, .int 0, .str "A", .str "a b", .ref a3, .ref a4, .str "a1", .str (repS "a" 401), .ref a5, .bl true]))
        generalize upd K6 L (.lst [.non, .int 0, .str "A", .str "a b", .ref a3, .ref a4, .str "a1", .str (repS "a" 401), .ref a5, .bl true]) = K7 at sL gL W3 od6
        refine ⟨p, c, L, _, ns, _, rfl, W3.gp, hlen, gL, nL, (by show 0 < 10; decide), (by show 10 < 1000000; decide), by omega, fun vw G6 hv gp6 b6 => ?_⟩
        have wd6 := ((hodd vw hv).same sL).draw W3.gp b6
        have od7 := od6.draw W3.gp b6
        have W4 := W3.draw gp6 b6
        clear hodd hv gL W3 sL od6 od5 W2 W
        obtain ⟨tx, bad⟩ := wd6.bad (K := K)
        have dC : ∃ d : PyData, d = .tuple [.str "converter", .str "converter"] := ⟨_, rfl⟩
        obtain ⟨dc, edc⟩ := dC
        have dW : ∃ d : PyData, d = .tuple [.str "word", .str tx] := ⟨_, rfl⟩
        obtain ⟨dw, edw⟩ := dW
        -- first
        refine ⟨W4.tb, fun H6 m6 tb6 => ?_⟩
        have W5 := W4.extN m6 tb6
        refine heard_run rfl rfl (.inl ⟨(od7.extN m6).bad TM, edc⟩) (fun u1 H7 s7 lay1 fr1 => ?_)
        refine ⟨(by show 1 ≤ sizeLine; decide), fun L8 hL8 => ?_⟩
        have W6 := W5.same s7
        have o7 := od7.extN (m6.trans (extN_same s7))
        have mG7 := m6.trans (extN_same s7)
        clear W5 W4
        have m78 := extN_same (Same.new (u := .lst [u1]) hL8)
        have g8 : upd H7 L8 (.lst [u1]) L8 = some (.lst [u1]) := upd_same
        have W8 := W6.same (Same.new (u := .lst [u1]) hL8)
        generalize upd H7 L8 (.lst [u1]) = H8 at m78 g8 W8
        -- second
        refine ⟨_, rfl, .inl ⟨rfl, _, SqL.of g8⟩, ⟨W8.tb, fun H9 m9 tb9 => ?_⟩⟩
        have g9 := m9 _ _ g8 (fun _ z => by cases z)
        refine heard_climbs rfl rfl (.inl ⟨(o7.extN (m78.trans m9)).bad TM, edc⟩) (fun u2 H10 s10 lay2 fr2 => ?_)
        have g10 := s10 _ _ g9
        refine ⟨L8, [u1], u2, rfl, rfl, g10, (by show 1 < sizeLine; decide), ?_⟩
        have ne2 : u2 ≠ .ref L8 := fun z => by
          obtain ⟨a2, e2, n2⟩ := fr2
          rw [e2] at z
          rw [V.ref.inj z, g9] at n2
          cases n2
        have m11 := extN_over (u := .lst ([u1] ++ [u2])) (LamX.ExtN.refl H7) hL8 (m78.trans (m9.trans (extN_same s10)))
        have lay2 := lay2.updL (u := .lst ([u1] ++ [u2])) g10 ne2
        have tb11 := tabs_updL (u := .lst ([u1] ++ [u2])) (tb9.ext s10) g10
        have g11 : upd H10 L8 (.lst ([u1] ++ [u2])) L8 = some (.lst [u1, u2]) := upd_same
        generalize upd H10 L8 (.lst ([u1] ++ [u2])) = H11 at m11 lay2 tb11 g11
        have askW : ∀ H' out, LamX.ExtN H7 H' → LamX.Tabs (tabs PL) H' → Ask K mg H' (.ref x) vw out dw := by
          intro H' out m tbx
          obtain ⟨bw, sh, so⟩ := bad H' (mG7.trans m)
          exact .inr ⟨x, s0, st, tl, rfl, (W6.extN m tbx).cv, ok, .inl ⟨tx, bw, sh, so, edw⟩⟩
        -- third
        refine ⟨_, rfl, .inl ⟨rfl, _, SqL.of g11⟩, ⟨tb11, fun H12 m12 tb12 => ?_⟩⟩
        have g12 := m12 _ _ g11 (fun _ z => by cases z)
        refine heard_run rfl rfl (askW _ _ (m11.trans m12) tb12) (fun u3 H13 s13 lay3 fr3 => ?_)
        have g13 := s13 _ _ g12
        refine ⟨L8, [u1, u2], u3, rfl, rfl, g13, (by show 2 < sizeLine; decide), ?_⟩
        have ne3 : u3 ≠ .ref L8 := fun z => by
          obtain ⟨a2, e2, n2⟩ := fr3
          rw [e2] at z
          rw [V.ref.inj z, g12] at n2
          cases n2
        have m14 := extN_over (u := .lst ([u1, u2] ++ [u3])) (LamX.ExtN.refl H7) hL8 (m11.trans (m12.trans (extN_same s13)))
        have lay2 := (lay2.extN (m12.trans (extN_same s13))).updL (u := .lst ([u1, u2] ++ [u3])) g13 ne2
        have lay3 := lay3.updL (u := .lst ([u1, u2] ++ [u3])) g13 ne3
        have tb14 := tabs_updL (u := .lst ([u1, u2] ++ [u3])) (tb12.ext s13) g13
        have g14 : upd H13 L8 (.lst ([u1, u2] ++ [u3])) L8 = some (.lst [u1, u2, u3]) := upd_same
        generalize upd H13 L8 (.lst ([u1, u2] ++ [u3])) = H14 at m14 lay2 lay3 tb14 g14
        -- fourth
        refine ⟨_, rfl, .inl ⟨rfl, _, SqL.of g14⟩, ⟨tb14, fun H15 m15 tb15 => ?_⟩⟩
        have g15 := m15 _ _ g14 (fun _ z => by cases z)
        refine heard_climbs rfl rfl (askW _ _ (m14.trans m15) tb15) (fun u4 H16 s16 lay4 fr4 => ?_)
        have g16 := s16 _ _ g15
        refine ⟨L8, [u1, u2, u3], u4, rfl, rfl, g16, (by show 3 < sizeLine; decide), ?_⟩
        have ne4 : u4 ≠ .ref L8 := fun z => by
          obtain ⟨a2, e2, n2⟩ := fr4
          rw [e2] at z
          rw [V.ref.inj z, g15] at n2
          cases n2
        have m17 := extN_over (u := .lst ([u1, u2, u3] ++ [u4])) (LamX.ExtN.refl H7) hL8 (m14.trans (m15.trans (extN_same s16)))
        have lay2 := (lay2.extN (m15.trans (extN_same s16))).updL (u := .lst ([u1, u2, u3] ++ [u4])) g16 ne2
        have lay3 := (lay3.extN (m15.trans (extN_same s16))).updL (u := .lst ([u1, u2, u3] ++ [u4])) g16 ne3
        have lay4 := lay4.updL (u := .lst ([u1, u2, u3] ++ [u4])) g16 ne4
        have tb17 := tabs_updL (u := .lst ([u1, u2, u3] ++ [u4])) (tb15.ext s16) g16
        have g17 : upd H16 L8 (.lst ([u1, u2, u3] ++ [u4])) L8 = some (.lst [u1, u2, u3, u4]) := upd_same
        generalize upd H16 L8 (.lst ([u1, u2, u3] ++ [u4])) = H17 at m17 lay2 lay3 lay4 tb17 g17
        have lay1 := lay1.extN m17
        have W9 := W6.extN m17 tb17
        refine ⟨_, rfl, (by show 2 ≤ sizeLine; decide), fun Tc hTc => ?_⟩
        have s18 : Same H17 (upd H17 Tc (.tup [.str "converter", .str "converter"])) := Same.new hTc
        have gTc : upd H17 Tc (.tup [.str "converter", .str "converter"]) Tc = some (.tup [.str "converter", .str "converter"]) := upd_same
        show (fun H18 => _) (upd H17 Tc (.tup [.str "converter", .str "converter"]))
        generalize upd H17 Tc (.tup [.str "converter", .str "converter"]) = H18 at s18 gTc
        refine ⟨(by show 1 ≤ sizeLine; decide), fun M1 hM1 => ?_⟩
        have s19 := s18.trans (Same.new (u := .lst [.ref Tc]) hM1)
        have gTc := upd_new (u := .lst [.ref Tc]) hM1 gTc
        have gM1 : upd H18 M1 (.lst [.ref Tc]) M1 = some (.lst [.ref Tc]) := upd_same
        show (fun H19 => _) (upd H18 M1 (.lst [.ref Tc]))
        generalize upd H18 M1 (.lst [.ref Tc]) = H19 at s19 gTc gM1
        refine ⟨M1, 2, [.ref Tc], rfl, rfl, gM1, by decide, by decide, (by show 2 ≤ sizeLine; decide), fun M2 hM2 => ?_⟩
        have s20 := s19.trans (Same.new (u := .lst [.ref Tc, .ref Tc]) hM2)
        have gTc := upd_new (u := .lst [.ref Tc, .ref Tc]) hM2 gTc
        have gM2 : upd H19 M2 (.lst [.ref Tc, .ref Tc]) M2 = some (.lst [.ref Tc, .ref Tc]) := upd_same
        rw [show (List.replicate (Int.toNat 2) [V.ref Tc]).flatten = [V.ref Tc, V.ref Tc] from rfl]
        generalize upd H19 M2 (.lst [.ref Tc, .ref Tc]) = H20 at s20 gTc gM2
        obtain ⟨_, sh, so⟩ := bad H20 (mG7.trans (m17.trans (extN_same s20)))
        refine ⟨_, rfl, vw, tx, rfl, sh _ (fun _ _ h => h), (by show 2 ≤ sizeLine; decide), fun Tw hTw => ?_⟩
        have s21 : Same H20 (upd H20 Tw (.tup [.str "word", .str tx])) := Same.new hTw
        have gTw : upd H20 Tw (.tup [.str "word", .str tx]) Tw = some (.tup [.str "word", .str tx]) := upd_same
        show (fun H21 => _) (upd H20 Tw (.tup [.str "word", .str tx]))
        generalize upd H20 Tw (.tup [.str "word", .str tx]) = H21 at s21 gTw
        refine ⟨(by show 1 ≤ sizeLine; decide), fun M3 hM3 => ?_⟩
        have s22 := s21.trans (Same.new (u := .lst [.ref Tw]) hM3)
        have gTw := upd_new (u := .lst [.ref Tw]) hM3 gTw
        have gM3 : upd H21 M3 (.lst [.ref Tw]) M3 = some (.lst [.ref Tw]) := upd_same
        show (fun H22 => _) (upd H21 M3 (.lst [.ref Tw]))
        generalize upd H21 M3 (.lst [.ref Tw]) = H22 at s22 gTw gM3
        refine ⟨M3, 2, [.ref Tw], rfl, rfl, gM3, by decide, by decide, (by show 2 ≤ sizeLine; decide), fun M4 hM4 => ?_⟩
        have s23 := s22.trans (Same.new (u := .lst [.ref Tw, .ref Tw]) hM4)
        have gTw := upd_new (u := .lst [.ref Tw, .ref Tw]) hM4 gTw
        have gM4 : upd H22 M4 (.lst [.ref Tw, .ref Tw]) M4 = some (.lst [.ref Tw, .ref Tw]) := upd_same
        rw [show (List.replicate (Int.toNat 2) [V.ref Tw]).flatten = [V.ref Tw, V.ref Tw] from rfl]
        generalize upd H22 M4 (.lst [.ref Tw, .ref Tw]) = H23 at s23 gTw gM4
        refine ⟨M2, M4, _, _, rfl, rfl, s23 _ _ gM2, gM4, (by show 4 ≤ sizeLine; decide), fun M5 hM5 => ?_⟩
        have s24 := s23.trans (Same.new (u := .lst ([.ref Tc, .ref Tc] ++ [.ref Tw, .ref Tw])) hM5)
        have gTw := upd_new (u := .lst ([.ref Tc, .ref Tc] ++ [.ref Tw, .ref Tw])) hM5 gTw
        have gM5 : upd H23 M5 (.lst ([.ref Tc, .ref Tc] ++ [.ref Tw, .ref Tw])) M5 = some (.lst ([.ref Tc, .ref Tc] ++ [.ref Tw, .ref Tw])) := upd_same
        generalize upd H23 M5 (.lst ([.ref Tc, .ref Tc] ++ [.ref Tw, .ref Tw])) = H24 at s24 gTw gM5
        have s25 := s20.trans s24
        have m25 := extN_same s25
        have fC : FlatAll [.str "converter", .str "converter"] [.str "converter", .str "converter"] := .cons (.str _ (by decide +kernel)) (.cons (.str _ (by decide +kernel)) .nil)
        have fW : FlatAll [.str "word", .str tx] [.str "word", .str tx] := .cons (.str _ (by decide +kernel)) (.cons (.str _ so) .nil)
        have layC : Lay H24 (.ref Tc) dc := .inl ⟨Tc, _, _, rfl, s24 _ _ gTc, fC, edc⟩
        have layW : Lay H24 (.ref Tw) dw := .inl ⟨Tw, _, _, rfl, gTw, fW, edw⟩
        obtain ⟨shp, eqq⟩ := lay_shaped (ds := [dc, dc, dw, dw]) fun d hd => by
          simp only [List.mem_cons, List.not_mem_nil, or_false] at hd
          rcases hd with rfl | rfl | rfl | rfl
          · exact layC.can
          · exact layC.can
          · exact layW.can
          · exact layW.can
        refine ⟨_, _, .lst (SqL.of (s25 _ _ g17)) (.cons (lay1.extN m25).dp (.cons (lay2.extN m25).dp (.cons (lay3.extN m25).dp (.cons (lay4.extN m25).dp .nil)))), .lst (SqL.of gM5) (.cons layC.dp (.cons layC.dp (.cons layW.dp (.cons layW.dp .nil)))), shp, shp, _, rfl, ?_⟩
        rw [eqq]
        refine iteF ?_
        have W10 := W9.extN m25 (tb17.ext s25)
        exact ⟨_, _, _, _, _, _, _, _, _, _, _, rfl, W10.gp.mono (by omega), W10.tb⟩
    · rintro σ G ⟨v2, v3, v4, v5, v6, v7, v8, v9, v10, v11, v12, rfl, gp, gt⟩
      refine fun D hD => ⟨(by show 2 ≤ sizeLine; decide), fun k1 hk1 => ?_⟩
      have gD1 : upd G D (.dT []) D = some (.dT []) := upd_same
      have gD2 := upd_new (u := .tup [.str "s", .str "a"]) hk1 gD1
      have gk1 : upd (upd G D (.dT [])) k1 (.tup [.str "s", .str "a"]) k1 = some (.tup [.str "s", .str "a"]) := upd_same
      show (fun G1 => _) (upd (upd G D (.dT [])) k1 (.tup [.str "s", .str "a"]))
      generalize upd (upd G D (.dT [])) k1 (.tup [.str "s", .str "a"]) = G1 at gD2 gk1
      refine ⟨(by show 2 ≤ sizeLine; decide), fun w1 hw1 => ?_⟩
      have gD3 := upd_new (u := .tup [.str "abcd", .str "s"]) hw1 gD2
      have gk1 := upd_new (u := .tup [.str "abcd", .str "s"]) hw1 gk1
      have gw1 : upd G1 w1 (.tup [.str "abcd", .str "s"]) w1 = some (.tup [.str "abcd", .str "s"]) := upd_same
      show (fun G2 => _) (upd G1 w1 (.tup [.str "abcd", .str "s"]))
      generalize upd G1 w1 (.tup [.str "abcd", .str "s"]) = G2 at gD3 gk1 gw1
      refine ⟨(by show 2 ≤ sizeLine; decide), fun k2 hk2 => ?_⟩
      have gD4 := upd_new (u := .tup [.str "s", .str "b"]) hk2 gD3
      have gk1 := upd_new (u := .tup [.str "s", .str "b"]) hk2 gk1
      have gw1 := upd_new (u := .tup [.str "s", .str "b"]) hk2 gw1
      have gk2 : upd G2 k2 (.tup [.str "s", .str "b"]) k2 = some (.tup [.str "s", .str "b"]) := upd_same
      show (fun G3 => _) (upd G2 k2 (.tup [.str "s", .str "b"]))
      generalize upd G2 k2 (.tup [.str "s", .str "b"]) = G3 at gD4 gk1 gw1 gk2
      refine ⟨(by show 2 ≤ sizeLine; decide), fun w2 hw2 => ?_⟩
      have gD5 := upd_new (u := .tup [.str "", .str "s"]) hw2 gD4
      have gk1 := upd_new (u := .tup [.str "", .str "s"]) hw2 gk1
      have gw1 := upd_new (u := .tup [.str "", .str "s"]) hw2 gw1
      have gk2 := upd_new (u := .tup [.str "", .str "s"]) hw2 gk2
      have gw2 : upd G3 w2 (.tup [.str "", .str "s"]) w2 = some (.tup [.str "", .str "s"]) := upd_same
      show (fun G4 => _) (upd G3 w2 (.tup [.str "", .str "s"]))
      generalize upd G3 w2 (.tup [.str "", .str "s"]) = G4 at gD5 gk1 gw1 gk2 gw2
      refine ⟨k1, [.inr "s", .inr "a"], k2, [.inr "s", .inr "b"], rfl, rfl, gk1, gk2, gD5, fun Tl hTl => ?_⟩
      have ekv : putK (putK [] ([Sum.inr (Str.ofString "s"), Sum.inr (Str.ofString "a")] : List Key) (V.ref w1)) ([Sum.inr (Str.ofString "s"), Sum.inr (Str.ofString "b")] : List Key) (V.ref w2) = [(([Sum.inr (Str.ofString "s"), Sum.inr (Str.ofString "a")] : List Key), V.ref w1), (([Sum.inr (Str.ofString "s"), Sum.inr (Str.ofString "b")] : List Key), V.ref w2)] := by rfl
      rw [ekv]
      rw [ekv] at hTl
      have nw1 : w1 ≠ D := fun z => by rw [z, gD5] at gw1; cases gw1
      have nw2 : w2 ≠ D := fun z => by rw [z, gD5] at gw2; cases gw2
      have gDx : upd G4 D (.dT [(([Sum.inr (Str.ofString "s"), Sum.inr (Str.ofString "a")] : List Key), V.ref w1), (([Sum.inr (Str.ofString "s"), Sum.inr (Str.ofString "b")] : List Key), V.ref w2)]) D = some (.dT [(([Sum.inr (Str.ofString "s"), Sum.inr (Str.ofString "a")] : List Key), V.ref w1), (([Sum.inr (Str.ofString "s"), Sum.inr (Str.ofString "b")] : List Key), V.ref w2)]) := upd_same
      have gw1x := upd_oth (u := .dT [(([Sum.inr (Str.ofString "s"), Sum.inr (Str.ofString "a")] : List Key), V.ref w1), (([Sum.inr (Str.ofString "s"), Sum.inr (Str.ofString "b")] : List Key), V.ref w2)]) nw1 gw1
      have gw2x := upd_oth (u := .dT [(([Sum.inr (Str.ofString "s"), Sum.inr (Str.ofString "a")] : List Key), V.ref w1), (([Sum.inr (Str.ofString "s"), Sum.inr (Str.ofString "b")] : List Key), V.ref w2)]) nw2 gw2
      generalize upd G4 D (.dT [(([Sum.inr (Str.ofString "s"), Sum.inr (Str.ofString "a")] : List Key), V.ref w1), (([Sum.inr (Str.ofString "s"), Sum.inr (Str.ofString "b")] : List Key), V.ref w2)]) = G5 at hTl gDx gw1x gw2x
      have s6 : Same G5 (upd G5 Tl (.dK [])) := Same.new hTl
      have gT : upd G5 Tl (.dK []) Tl = some (.dK (([] : List (Str × Str)).map tlKv)) := upd_same
      generalize upd G5 Tl (.dK []) = G6 at s6 gT
      have hst : StAt K G6 D lst := ⟨_, s6 _ _ gDx, ⟨rfl, fun i e he => by
        match i, he with
        | 0, he =>
          obtain rfl := Option.some.inj he
          exact ⟨w1, rfl, SqT.of (s6 _ _ gw1x)⟩
        | 1, he =>
          obtain rfl := Option.some.inj he
          exact ⟨w2, rfl, SqT.of (s6 _ _ gw2x)⟩⟩, (by show ([[Sum.inr (Str.ofString "s"), Sum.inr (Str.ofString "a")], [Sum.inr (Str.ofString "s"), Sum.inr (Str.ofString "b")]] : List (List Key)).Nodup; decide +kernel)⟩
      refine fun x dx hx hdx nxd => ?_
      refine make_ok (K := K) (mg := mg) hst gT (by simp) ok_lone hx hdx nxd fun G7 s7 cv => ?_
      refine ⟨_, rfl, "a", 200, rfl, rfl, by decide, by decide, by decide, by decide, by decide, "b", 200, rfl, rfl, by decide, by decide, by decide, by decide, by decide, _, _, rfl, rfl, ?_, ?_⟩
      · rw [repS_len 97 200 "a" rfl, repS_len 98 200 "b" rfl]
        decide
      refine ⟨.ref x, .str loneZ, rfl, pre_lone cv ok_lone loneZ_txt lone_wk fun R G8 s8 gR => ?_⟩
      refine ⟨_, rfl, _, rfl, 200, 200, rfl, rfl, by decide, R, _, rfl, SqT.of gR, ?_, fun S hS => ?_⟩
      · rw [lone_pick]
        show 2 ≤ sizeLine
        decide
      rw [lone_pick]
      have s9 := s8.trans (Same.new (u := .tup [.int 600, .int 400]) hS)
      have gS : upd G8 S (.tup [.int 600, .int 400]) S = some (.tup [.int 600, .int 400]) := upd_same
      generalize upd G8 S (.tup [.int 600, .int 400]) = G9 at s9 gS
      refine ⟨(by show 2 ≤ sizeLine; decide), fun S2 hS2 => ?_⟩
      have s10 := s9.trans (Same.new (u := .tup [.int 600, .int 400]) hS2)
      have gS := upd_new (u := .tup [.int 600, .int 400]) hS2 gS
      have gS2 : upd G9 S2 (.tup [.int 600, .int 400]) S2 = some (.tup [.int 600, .int 400]) := upd_same
      show (fun G10 => _) (upd G9 S2 (.tup [.int 600, .int 400]))
      generalize upd G9 S2 (.tup [.int 600, .int 400]) = G10 at s10 gS gS2
      refine ⟨_, _, .tup (SqT.of gS) (.cons (.int 600) (.cons (.int 400) .nil)), .tup (SqT.of gS2) (.cons (.int 600) (.cons (.int 400) .nil)), by decide +kernel, by decide +kernel, _, rfl, ?_⟩
      rw [show PyData.eqv (.tuple [.int 600, .int 400]) (.tuple [.int 600, .int 400]) = true by decide +kernel]
      refine iteT ?_
      have cv10 := cv.same s10
      have wk0 : Wk lst "s" ("" : Str).cps.toList [] "s" := .nil _
      refine ⟨_, rfl, .ref x, .str "", rfl, pre_lone cv10 ok_lone (by decide +kernel) wk0 fun R2 G11 s11 gR2 => ?_⟩
      have gR2 : G11 R2 = some (.tup [.str "s"]) := gR2
      refine ⟨(by show 1 ≤ sizeLine; decide), fun S3 hS3 => ?_⟩
      have s12 := s11.trans (Same.new (u := .tup [.str "s"]) hS3)
      have gR2 := upd_new (u := .tup [.str "s"]) hS3 gR2
      have gS3 : upd G11 S3 (.tup [.str "s"]) S3 = some (.tup [.str "s"]) := upd_same
      show (fun G12 => _) (upd G11 S3 (.tup [.str "s"]))
      generalize upd G11 S3 (.tup [.str "s"]) = G12 at s12 gR2 gS3
      refine ⟨_, _, .tup (SqT.of gR2) (.cons (.str "s") .nil), .tup (SqT.of gS3) (.cons (.str "s") .nil), by decide +kernel, by decide +kernel, _, rfl, ?_⟩
      rw [show PyData.eqv (.tuple [.str "s"]) (.tuple [.str "s"]) = true by decide +kernel]
      refine iteT ?_
      have cv12 := cv10.same s12
      refine ⟨_, rfl, .ref x, .str "", rfl, pre_lone cv12 ok_lone (by decide +kernel) wk0 fun R3 G13 s13 gR3 => ?_⟩
      have gR3 : G13 R3 = some (.tup [.int 0]) := gR3
      refine ⟨(by show 1 ≤ sizeLine; decide), fun S4 hS4 => ?_⟩
      have gR3 := upd_new (u := .tup [.int 0]) hS4 gR3
      have gS4 : upd G13 S4 (.tup [.int 0]) S4 = some (.tup [.int 0]) := upd_same
      show (fun G14 => _) (upd G13 S4 (.tup [.int 0]))
      generalize upd G13 S4 (.tup [.int 0]) = G14 at gR3 gS4
      refine ⟨_, _, .tup (SqT.of gR3) (.cons (.int 0) .nil), .tup (SqT.of gS4) (.cons (.int 0) .nil), by decide +kernel, by decide +kernel, ?_⟩
      rw [show PyData.eqv (.tuple [.int 0]) (.tuple [.int 0]) = true by decide +kernel]
      exact k _
end
end KC

namespace KC
open PySem L2
abbrev s_iBadConverter : Stmt := inClass (top 6) 0
abbrev n_iBadConverter : List Str := ["self", "part"]
theorem sc_iBadConverter : FnScope n_iBadConverter ["self", "part"] (defScope s_iBadConverter) :=
  ⟨rfl, rfl, rfl, by decide +kernel, rfl, by decide +kernel, by decide +kernel⟩
abbrev s_iBadWord : Stmt := inClass (top 8) 0
abbrev n_iBadWord : List Str := ["self", "value"]
theorem sc_iBadWord : FnScope n_iBadWord ["self", "value"] (defScope s_iBadWord) :=
  ⟨rfl, rfl, rfl, by decide +kernel, rfl, by decide +kernel, by decide +kernel⟩
abbrev s_iNoStep : Stmt := inClass (top 10) 0
abbrev n_iNoStep : List Str := ["self", "at", "state"]
theorem sc_iNoStep : FnScope n_iNoStep ["self", "at", "state"] (defScope s_iNoStep) :=
  ⟨rfl, rfl, rfl, by decide +kernel, rfl, by decide +kernel, by decide +kernel⟩
def clsB (K : PySem.W.Frag) (C : Addr) : Bool :=
  decide (PySem.W.findIn K (.ref C) "__class__" = some (some (.builtin "object.__class__"))) && (decide (PySem.W.specialIn K (.builtin "object.__class__") "__get__" = some (some (.builtin "getset_descriptor.__get__"))) && (decide (PySem.W.takesIn K (.builtin "object.__class__") = some true) && (decide (PySem.W.mroIn K C (.type "object") = some true) && (decide (PySem.W.kitOne K (.ref C) (.ref C) = some true) && (decide (PySem.W.kitOne K (.type "NoneType") (.ref C) = some false) && (decide (PySem.W.kitOne K (.type "int") (.ref C) = some false) && (decide (PySem.W.kitOne K (.type "str") (.ref C) = some false) && (decide (PySem.W.kitOne K (.type "dict") (.ref C) = some false) && (decide (PySem.W.kitOne K (.type "list") (.ref C) = some false) && (decide (PySem.W.kitOne K (.type "bool") (.ref C) = some false)))))))))))
def chk (K : PySem.W.Frag) : Bool :=
  tabless K && ((blts.all fun x => decide (PySem.W.nsIn K mainGlobals x = some none)) &&
  ((hNames.all fun x => exB K (["value", "at", "state", "part"] : List Str) x) &&
  ((hNames.all fun x => hNames.all fun y => kitNB2 K x y (decide (x = y))) &&
  ((hNames.all fun x => exmB2 K x "HeadError" true) &&
  ((match PySem.W.nsIn K mainGlobals "HeadError" with
    | some (some (.ref _)) => true
    | _ => false) &&
  (errB K "BadConverter" ["part"] && (errB K "BadWord" ["value"] && (errB K "NoStep" ["at", "state"] &&
  (match PySem.W.nsIn K mainGlobals "Converter" with
    | some (some (.ref C)) => ownB K ["start", "states", "letters", "steps", "tails"] C && clsB K C
    | _ => false)))))))))
theorem fin_mk {P : Program} {w : World} {K : PySem.W.Frag} {mg : Str → Option Value} {h : Heap} {fa : Addr} (X : K.In h) (G : h.Ns mainGlobals mg)
    (hmg : mg "law" = some (.ref fa)) (tbs : ∀ y ∈ (["law"] : List Str), ∃ c T, TabOf mg h y c T) (c : chk K = true)
    {f0 : Addr} {od0 an0 : Option Addr} {sl0 : Array (Option Value)} {oc0 kV0 dc0 pm0 cd0 ct0 : Value}
    {f1 : Addr} {od1 an1 : Option Addr} {sl1 : Array (Option Value)} {oc1 kV1 dc1 pm1 cd1 ct1 : Value}
    {f2 : Addr} {od2 an2 : Option Addr} {sl2 : Array (Option Value)} {oc2 kV2 dc2 pm2 cd2 ct2 : Value}
    {f3 : Addr} {od3 an3 : Option Addr} {sl3 : Array (Option Value)} {oc3 kV3 dc3 pm3 cd3 ct3 : Value}
    {f4 : Addr} {od4 an4 : Option Addr} {sl4 : Array (Option Value)} {oc4 kV4 dc4 pm4 cd4 ct4 : Value}
    {f5 : Addr} {od5 an5 : Option Addr} {sl5 : Array (Option Value)} {oc5 kV5 dc5 pm5 cd5 ct5 : Value}
    {f6 : Addr} {od6 an6 : Option Addr} {sl6 : Array (Option Value)} {oc6 kV6 dc6 pm6 cd6 ct6 : Value}
    {f7 : Addr} {od7 an7 : Option Addr} {sl7 : Array (Option Value)} {oc7 kV7 dc7 pm7 cd7 ct7 : Value}
    {f8 : Addr} {od8 an8 : Option Addr} {sl8 : Array (Option Value)} {oc8 kV8 dc8 pm8 cd8 ct8 : Value}
    {f9 : Addr} {od9 an9 : Option Addr} {sl9 : Array (Option Value)} {oc9 kV9 dc9 pm9 cd9 ct9 : Value}
    {f10 : Addr} {od10 an10 : Option Addr} {sl10 : Array (Option Value)} {oc10 kV10 dc10 pm10 cd10 ct10 : Value}
    {f11 : Addr} {od11 an11 : Option Addr} {sl11 : Array (Option Value)} {oc11 kV11 dc11 pm11 cd11 ct11 : Value}
    {f12 : Addr} {od12 an12 : Option Addr} {sl12 : Array (Option Value)} {oc12 kV12 dc12 pm12 cd12 ct12 : Value}
    {f13 : Addr} {od13 an13 : Option Addr} {sl13 : Array (Option Value)} {oc13 kV13 dc13 pm13 cd13 ct13 : Value}
    {f14 : Addr} {od14 an14 : Option Addr} {sl14 : Array (Option Value)} {oc14 kV14 dc14 pm14 cd14 ct14 : Value}
    {f15 : Addr} {od15 an15 : Option Addr} {sl15 : Array (Option Value)} {oc15 kV15 dc15 pm15 cd15 ct15 : Value}
    {f16 : Addr} {od16 an16 : Option Addr} {sl16 : Array (Option Value)} {oc16 kV16 dc16 pm16 cd16 ct16 : Value}
    {f17 : Addr} {od17 an17 : Option Addr} {sl17 : Array (Option Value)} {oc17 kV17 dc17 pm17 cd17 ct17 : Value}
    {f18 : Addr} {od18 an18 : Option Addr} {sl18 : Array (Option Value)} {oc18 kV18 dc18 pm18 cd18 ct18 : Value}
    {f19 : Addr} {od19 an19 : Option Addr} {sl19 : Array (Option Value)} {oc19 kV19 dc19 pm19 cd19 ct19 : Value}
    {f20 : Addr} {od20 an20 : Option Addr} {sl20 : Array (Option Value)} {oc20 kV20 dc20 pm20 cd20 ct20 : Value}
    {f21 : Addr} {od21 an21 : Option Addr} {sl21 : Array (Option Value)} {oc21 kV21 dc21 pm21 cd21 ct21 : Value}
    {f22 : Addr} {od22 an22 : Option Addr} {sl22 : Array (Option Value)} {oc22 kV22 dc22 pm22 cd22 ct22 : Value}
    {f23 : Addr} {od23 an23 : Option Addr} {sl23 : Array (Option Value)} {oc23 kV23 dc23 pm23 cd23 ct23 : Value}
    {f24 : Addr} {od24 an24 : Option Addr} {sl24 : Array (Option Value)} {oc24 kV24 dc24 pm24 cd24 ct24 : Value}
    {f25 : Addr} {od25 an25 : Option Addr} {sl25 : Array (Option Value)} {oc25 kV25 dc25 pm25 cd25 ct25 : Value}
    {t0 : Tok}
    {t1 : Tok}
    {t2 : Tok}
    {t3 : Tok}
    {C : Addr}
    {u0 : Tok}
    {u1 : Tok}
    {f40 : Addr} {od40 an40 : Option Addr} {sl40 : Array (Option Value)} {oc40 kV40 dc40 pm40 cd40 ct40 : Value}
    {f60 : Addr} {od60 an60 : Option Addr} {sl60 : Array (Option Value)} {oc60 kV60 dc60 pm60 cd60 ct60 : Value} {D60 : Addr}
    {f61 : Addr} {od61 an61 : Option Addr} {sl61 : Array (Option Value)} {oc61 kV61 dc61 pm61 cd61 ct61 : Value} {D61 : Addr}
    {f62 : Addr} {od62 an62 : Option Addr} {sl62 : Array (Option Value)} {oc62 kV62 dc62 pm62 cd62 ct62 : Value} {D62 : Addr}
    (a0 : PySem.W.nsIn K mainGlobals "is_pair" = some (some (.ref f0)))
    (l0 : K.lookup f0 = some ⟨oc0, od0, .func (PySem.W.fnOf "is_pair" "is_pair" (defArgs s_ipair) (defBody s_ipair) (defScope s_ipair) .none kV0 dc0 pm0 an0 cd0 ct0), sl0⟩)
    (c0 : PySem.W.codeIn K cd0 "is_pair" = true) (k0 : PySem.W.keepIn K (.ref f0) = true)
    (a1 : PySem.W.nsIn K mainGlobals "is_letters" = some (some (.ref f1)))
    (l1 : K.lookup f1 = some ⟨oc1, od1, .func (PySem.W.fnOf "is_letters" "is_letters" (defArgs s_iletters) (defBody s_iletters) (defScope s_iletters) .none kV1 dc1 pm1 an1 cd1 ct1), sl1⟩)
    (c1 : PySem.W.codeIn K cd1 "is_letters" = true) (k1 : PySem.W.keepIn K (.ref f1) = true)
    (a2 : PySem.W.nsIn K mainGlobals "is_letter" = some (some (.ref f2)))
    (l2 : K.lookup f2 = some ⟨oc2, od2, .func (PySem.W.fnOf "is_letter" "is_letter" (defArgs s_iletter) (defBody s_iletter) (defScope s_iletter) .none kV2 dc2 pm2 an2 cd2 ct2), sl2⟩)
    (c2 : PySem.W.codeIn K cd2 "is_letter" = true) (k2 : PySem.W.keepIn K (.ref f2) = true)
    (a3 : PySem.W.nsIn K mainGlobals "is_name" = some (some (.ref f3)))
    (l3 : K.lookup f3 = some ⟨oc3, od3, .func (PySem.W.fnOf "is_name" "is_name" (defArgs s_iname) (defBody s_iname) (defScope s_iname) .none kV3 dc3 pm3 an3 cd3 ct3), sl3⟩)
    (c3 : PySem.W.codeIn K cd3 "is_name" = true) (k3 : PySem.W.keepIn K (.ref f3) = true)
    (a4 : PySem.W.nsIn K mainGlobals "is_answer" = some (some (.ref f4)))
    (l4 : K.lookup f4 = some ⟨oc4, od4, .func (PySem.W.fnOf "is_answer" "is_answer" (defArgs s_ianswer) (defBody s_ianswer) (defScope s_ianswer) .none kV4 dc4 pm4 an4 cd4 ct4), sl4⟩)
    (c4 : PySem.W.codeIn K cd4 "is_answer" = true) (k4 : PySem.W.keepIn K (.ref f4) = true)
    (a5 : PySem.W.nsIn K mainGlobals "is_text" = some (some (.ref f5)))
    (l5 : K.lookup f5 = some ⟨oc5, od5, .func (PySem.W.fnOf "is_text" "is_text" (defArgs s_itext) (defBody s_itext) (defScope s_itext) .none kV5 dc5 pm5 an5 cd5 ct5), sl5⟩)
    (c5 : PySem.W.codeIn K cd5 "is_text" = true) (k5 : PySem.W.keepIn K (.ref f5) = true)
    (a6 : PySem.W.nsIn K mainGlobals "is_goal" = some (some (.ref f6)))
    (l6 : K.lookup f6 = some ⟨oc6, od6, .func (PySem.W.fnOf "is_goal" "is_goal" (defArgs s_igoal) (defBody s_igoal) (defScope s_igoal) .none kV6 dc6 pm6 an6 cd6 ct6), sl6⟩)
    (c6 : PySem.W.codeIn K cd6 "is_goal" = true) (k6 : PySem.W.keepIn K (.ref f6) = true)
    (a7 : PySem.W.nsIn K mainGlobals "are_steps" = some (some (.ref f7)))
    (l7 : K.lookup f7 = some ⟨oc7, od7, .func (PySem.W.fnOf "are_steps" "are_steps" (defArgs s_asteps) (defBody s_asteps) (defScope s_asteps) .none kV7 dc7 pm7 an7 cd7 ct7), sl7⟩)
    (c7 : PySem.W.codeIn K cd7 "are_steps" = true) (k7 : PySem.W.keepIn K (.ref f7) = true)
    (a8 : PySem.W.nsIn K mainGlobals "are_tails" = some (some (.ref f8)))
    (l8 : K.lookup f8 = some ⟨oc8, od8, .func (PySem.W.fnOf "are_tails" "are_tails" (defArgs s_atails) (defBody s_atails) (defScope s_atails) .none kV8 dc8 pm8 an8 cd8 ct8), sl8⟩)
    (c8 : PySem.W.codeIn K cd8 "are_tails" = true) (k8 : PySem.W.keepIn K (.ref f8) = true)
    (a9 : PySem.W.nsIn K mainGlobals "state_names" = some (some (.ref f9)))
    (l9 : K.lookup f9 = some ⟨oc9, od9, .func (PySem.W.fnOf "state_names" "state_names" (defArgs s_snames) (defBody s_snames) (defScope s_snames) .none kV9 dc9 pm9 an9 cd9 ct9), sl9⟩)
    (c9 : PySem.W.codeIn K cd9 "state_names" = true) (k9 : PySem.W.keepIn K (.ref f9) = true)
    (a10 : PySem.W.nsIn K mainGlobals "step_letters" = some (some (.ref f10)))
    (l10 : K.lookup f10 = some ⟨oc10, od10, .func (PySem.W.fnOf "step_letters" "step_letters" (defArgs s_sletters) (defBody s_sletters) (defScope s_sletters) .none kV10 dc10 pm10 an10 cd10 ct10), sl10⟩)
    (c10 : PySem.W.codeIn K cd10 "step_letters" = true) (k10 : PySem.W.keepIn K (.ref f10) = true)
    (a11 : PySem.W.nsIn K mainGlobals "followed" = some (some (.ref f11)))
    (l11 : K.lookup f11 = some ⟨oc11, od11, .func (PySem.W.fnOf "followed" "followed" (defArgs s_followed) (defBody s_followed) (defScope s_followed) .none kV11 dc11 pm11 an11 cd11 ct11), sl11⟩)
    (c11 : PySem.W.codeIn K cd11 "followed" = true) (k11 : PySem.W.keepIn K (.ref f11) = true)
    (a12 : PySem.W.nsIn K mainGlobals "_law_pen" = some (some (.ref f12)))
    (l12 : K.lookup f12 = some ⟨oc12, od12, .func (PySem.W.fnOf "_law_pen" "_law_pen" (defArgs s_lpen) (defBody s_lpen) (defScope s_lpen) .none kV12 dc12 pm12 an12 cd12 ct12), sl12⟩)
    (c12 : PySem.W.codeIn K cd12 "_law_pen" = true) (k12 : PySem.W.keepIn K (.ref f12) = true)
    (a13 : PySem.W.nsIn K mainGlobals "_law_draw" = some (some (.ref f13)))
    (l13 : K.lookup f13 = some ⟨oc13, od13, .func (PySem.W.fnOf "_law_draw" "_law_draw" (defArgs s_ldraw) (defBody s_ldraw) (defScope s_ldraw) .none kV13 dc13 pm13 an13 cd13 ct13), sl13⟩)
    (c13 : PySem.W.codeIn K cd13 "_law_draw" = true) (k13 : PySem.W.keepIn K (.ref f13) = true)
    (a14 : PySem.W.nsIn K mainGlobals "_law_pick" = some (some (.ref f14)))
    (l14 : K.lookup f14 = some ⟨oc14, od14, .func (PySem.W.fnOf "_law_pick" "_law_pick" (defArgs s_lpick) (defBody s_lpick) (defScope s_lpick) .none kV14 dc14 pm14 an14 cd14 ct14), sl14⟩)
    (c14 : PySem.W.codeIn K cd14 "_law_pick" = true) (k14 : PySem.W.keepIn K (.ref f14) = true)
    (a15 : PySem.W.nsIn K mainGlobals "_law_plan" = some (some (.ref f15)))
    (l15 : K.lookup f15 = some ⟨oc15, od15, .func (PySem.W.fnOf "_law_plan" "_law_plan" (defArgs s_lplan) (defBody s_lplan) (defScope s_lplan) .none kV15 dc15 pm15 an15 cd15 ct15), sl15⟩)
    (c15 : PySem.W.codeIn K cd15 "_law_plan" = true) (k15 : PySem.W.keepIn K (.ref f15) = true)
    (a16 : PySem.W.nsIn K mainGlobals "_law_made" = some (some (.ref f16)))
    (l16 : K.lookup f16 = some ⟨oc16, od16, .func (PySem.W.fnOf "_law_made" "_law_made" (defArgs s_lmade) (defBody s_lmade) (defScope s_lmade) .none kV16 dc16 pm16 an16 cd16 ct16), sl16⟩)
    (c16 : PySem.W.codeIn K cd16 "_law_made" = true) (k16 : PySem.W.keepIn K (.ref f16) = true)
    (a17 : PySem.W.nsIn K mainGlobals "_law_run" = some (some (.ref f17)))
    (l17 : K.lookup f17 = some ⟨oc17, od17, .func (PySem.W.fnOf "_law_run" "_law_run" (defArgs s_lrun) (defBody s_lrun) (defScope s_lrun) .none kV17 dc17 pm17 an17 cd17 ct17), sl17⟩)
    (c17 : PySem.W.codeIn K cd17 "_law_run" = true) (k17 : PySem.W.keepIn K (.ref f17) = true)
    (a18 : PySem.W.nsIn K mainGlobals "_law_text" = some (some (.ref f18)))
    (l18 : K.lookup f18 = some ⟨oc18, od18, .func (PySem.W.fnOf "_law_text" "_law_text" (defArgs s_ltext) (defBody s_ltext) (defScope s_ltext) .none kV18 dc18 pm18 an18 cd18 ct18), sl18⟩)
    (c18 : PySem.W.codeIn K cd18 "_law_text" = true) (k18 : PySem.W.keepIn K (.ref f18) = true)
    (a19 : PySem.W.nsIn K mainGlobals "_law_heard" = some (some (.ref f19)))
    (l19 : K.lookup f19 = some ⟨oc19, od19, .func (PySem.W.fnOf "_law_heard" "_law_heard" (defArgs s_lheard) (defBody s_lheard) (defScope s_lheard) .none kV19 dc19 pm19 an19 cd19 ct19), sl19⟩)
    (c19 : PySem.W.codeIn K cd19 "_law_heard" = true) (k19 : PySem.W.keepIn K (.ref f19) = true)
    (a20 : PySem.W.nsIn K mainGlobals "_law_heights" = some (some (.ref f20)))
    (l20 : K.lookup f20 = some ⟨oc20, od20, .func (PySem.W.fnOf "_law_heights" "_law_heights" (defArgs s_lheights) (defBody s_lheights) (defScope s_lheights) .none kV20 dc20 pm20 an20 cd20 ct20), sl20⟩)
    (c20 : PySem.W.codeIn K cd20 "_law_heights" = true) (k20 : PySem.W.keepIn K (.ref f20) = true)
    (a21 : PySem.W.nsIn K mainGlobals "law" = some (some (.ref f21)))
    (l21 : K.lookup f21 = some ⟨oc21, od21, .func (PySem.W.fnOf "law" "law" (defArgs s_law) (defBody s_law) (defScope s_law) .none kV21 dc21 pm21 an21 cd21 ct21), sl21⟩)
    (c21 : PySem.W.codeIn K cd21 "law" = true) (k21 : PySem.W.keepIn K (.ref f21) = true)
    (a22 : PySem.W.nsIn K mainGlobals "check_converter" = some (some (.ref f22)))
    (l22 : K.lookup f22 = some ⟨oc22, od22, .func (PySem.W.fnOf "check_converter" "check_converter" (defArgs s_check_converter) (defBody s_check_converter) (defScope s_check_converter) .none kV22 dc22 pm22 an22 cd22 ct22), sl22⟩)
    (c22 : PySem.W.codeIn K cd22 "check_converter" = true) (k22 : PySem.W.keepIn K (.ref f22) = true)
    (a23 : PySem.W.nsIn K mainGlobals "steps_along" = some (some (.ref f23)))
    (l23 : K.lookup f23 = some ⟨oc23, od23, .func (PySem.W.fnOf "steps_along" "steps_along" (defArgs s_steps_along) (defBody s_steps_along) (defScope s_steps_along) .none kV23 dc23 pm23 an23 cd23 ct23), sl23⟩)
    (c23 : PySem.W.codeIn K cd23 "steps_along" = true) (k23 : PySem.W.keepIn K (.ref f23) = true)
    (a24 : PySem.W.nsIn K mainGlobals "run" = some (some (.ref f24)))
    (l24 : K.lookup f24 = some ⟨oc24, od24, .func (PySem.W.fnOf "run" "run" (defArgs s_run) (defBody s_run) (defScope s_run) .none kV24 dc24 pm24 an24 cd24 ct24), sl24⟩)
    (c24 : PySem.W.codeIn K cd24 "run" = true) (k24 : PySem.W.keepIn K (.ref f24) = true)
    (a25 : PySem.W.nsIn K mainGlobals "climbs" = some (some (.ref f25)))
    (l25 : K.lookup f25 = some ⟨oc25, od25, .func (PySem.W.fnOf "climbs" "climbs" (defArgs s_climbs) (defBody s_climbs) (defScope s_climbs) .none kV25 dc25 pm25 an25 cd25 ct25), sl25⟩)
    (c25 : PySem.W.codeIn K cd25 "climbs" = true) (k25 : PySem.W.keepIn K (.ref f25) = true)
    (G0 : PySem.W.nsIn K mainGlobals "LETTERS" = some (some (.str "abcdefghijklmnopqrstuvwxyz" t0)))
    (G1 : PySem.W.nsIn K mainGlobals "LONGEST_NAME" = some (some (.int 8 t1)))
    (G2 : PySem.W.nsIn K mainGlobals "LONGEST_ANSWER" = some (some (.int 4 t2)))
    (G3 : PySem.W.nsIn K mainGlobals "LONGEST_TEXT" = some (some (.int 400 t3)))
    (A : PySem.W.nsIn K mainGlobals "Converter" = some (some (.ref C)))
    (N0 : PySem.W.findIn K (.ref C) "MOST" = some (some (.int 6 u0)))
    (O0 : PySem.W.specialIn K (.int 6 u0) "__get__" = some none)
    (N1 : PySem.W.findIn K (.ref C) "MOST_LETTERS" = some (some (.int 4 u1)))
    (O1 : PySem.W.specialIn K (.int 4 u1) "__get__" = some none)
    (I40 : PySem.W.findIn K (.ref C) "__init__" = some (some (.ref f40)))
    (J40 : PySem.W.isFn K (.ref f40) = true)
    (l40 : K.lookup f40 = some ⟨oc40, od40, .func (PySem.W.fnOf "__init__" "Converter.__init__" (defArgs s_init) (defBody s_init) (defScope s_init) .none kV40 dc40 pm40 an40 cd40 ct40), sl40⟩)
    (c40 : PySem.W.codeIn K cd40 "Converter.__init__" = true) (k40 : PySem.W.keepIn K (.ref f40) = true)
    (A60 : PySem.W.nsIn K mainGlobals "BadConverter" = some (some (.ref D60)))
    (I60 : PySem.W.findIn K (.ref D60) "__init__" = some (some (.ref f60))) (T60 : PySem.W.typeIn K (.ref f60) = some (.type "function"))
    (l60 : K.lookup f60 = some ⟨oc60, od60, .func (PySem.W.fnOf "__init__" "BadConverter.__init__" (defArgs s_iBadConverter) (defBody s_iBadConverter) (defScope s_iBadConverter) .none kV60 dc60 pm60 an60 cd60 ct60), sl60⟩)
    (c60 : PySem.W.codeIn K cd60 "BadConverter.__init__" = true) (k60 : PySem.W.keepIn K (.ref f60) = true)
    (A61 : PySem.W.nsIn K mainGlobals "BadWord" = some (some (.ref D61)))
    (I61 : PySem.W.findIn K (.ref D61) "__init__" = some (some (.ref f61))) (T61 : PySem.W.typeIn K (.ref f61) = some (.type "function"))
    (l61 : K.lookup f61 = some ⟨oc61, od61, .func (PySem.W.fnOf "__init__" "BadWord.__init__" (defArgs s_iBadWord) (defBody s_iBadWord) (defScope s_iBadWord) .none kV61 dc61 pm61 an61 cd61 ct61), sl61⟩)
    (c61 : PySem.W.codeIn K cd61 "BadWord.__init__" = true) (k61 : PySem.W.keepIn K (.ref f61) = true)
    (A62 : PySem.W.nsIn K mainGlobals "NoStep" = some (some (.ref D62)))
    (I62 : PySem.W.findIn K (.ref D62) "__init__" = some (some (.ref f62))) (T62 : PySem.W.typeIn K (.ref f62) = some (.type "function"))
    (l62 : K.lookup f62 = some ⟨oc62, od62, .func (PySem.W.fnOf "__init__" "NoStep.__init__" (defArgs s_iNoStep) (defBody s_iNoStep) (defScope s_iNoStep) .none kV62 dc62 pm62 an62 cd62 ct62), sl62⟩)
    (c62 : PySem.W.codeIn K cd62 "NoStep.__init__" = true) (k62 : PySem.W.keepIn K (.ref f62) = true)
    : ∃ (fd : FuncData) (cs : List (Addr × Addr)) (sp : Sp), (∀ p ∈ cs, ∃ y, TabOf mg h y p.1 p.2) ∧ (∀ p ∈ cs, K.lookup p.2 = none) ∧ (∀ (s : Shared) (u : Value), BindsTo s fd ⟨[u], []⟩ [("_law_script", u)]) ∧
      (∀ (H : Hp) (a : Addr) (ns : List Int), ns.length ≤ 63 → (∀ p ∈ cs, H p.2 = some (.tbl #[])) → SqL K H a (ns.map V.int) → sp [.ref a] H (fun v _ => v = .bl true) E0) ∧
      ∀ base : Heap, K.In base → base.Ns mainGlobals mg → (∀ p ∈ cs, LamX.TabB base mg p.1 p.2) → FnG P w K mg base CX0 9 fa fd ["_law_script"] sp := by
  have d0 : OwnD K mg "is_pair" s_ipair ["value"] := own_mk X G a0 l0 c0 k0 (fun _ _ _ _ _ _ us hl => match us, hl with | [_], _ => rfl)
  have d1 : OwnD K mg "is_letters" s_iletters ["value", "least", "most"] := own_mk X G a1 l1 c1 k1 (fun _ _ _ _ _ _ us hl => match us, hl with | [_, _, _], _ => rfl)
  have d2 : OwnD K mg "is_letter" s_iletter ["value"] := own_mk X G a2 l2 c2 k2 (fun _ _ _ _ _ _ us hl => match us, hl with | [_], _ => rfl)
  have d3 : OwnD K mg "is_name" s_iname ["value"] := own_mk X G a3 l3 c3 k3 (fun _ _ _ _ _ _ us hl => match us, hl with | [_], _ => rfl)
  have d4 : OwnD K mg "is_answer" s_ianswer ["value"] := own_mk X G a4 l4 c4 k4 (fun _ _ _ _ _ _ us hl => match us, hl with | [_], _ => rfl)
  have d5 : OwnD K mg "is_text" s_itext ["value"] := own_mk X G a5 l5 c5 k5 (fun _ _ _ _ _ _ us hl => match us, hl with | [_], _ => rfl)
  have d6 : OwnD K mg "is_goal" s_igoal ["value"] := own_mk X G a6 l6 c6 k6 (fun _ _ _ _ _ _ us hl => match us, hl with | [_], _ => rfl)
  have d7 : OwnD K mg "are_steps" s_asteps ["steps"] := own_mk X G a7 l7 c7 k7 (fun _ _ _ _ _ _ us hl => match us, hl with | [_], _ => rfl)
  have d8 : OwnD K mg "are_tails" s_atails ["tails"] := own_mk X G a8 l8 c8 k8 (fun _ _ _ _ _ _ us hl => match us, hl with | [_], _ => rfl)
  have d9 : OwnD K mg "state_names" s_snames ["start", "steps", "tails"] := own_mk X G a9 l9 c9 k9 (fun _ _ _ _ _ _ us hl => match us, hl with | [_, _, _], _ => rfl)
  have d10 : OwnD K mg "step_letters" s_sletters ["steps"] := own_mk X G a10 l10 c10 k10 (fun _ _ _ _ _ _ us hl => match us, hl with | [_], _ => rfl)
  have d11 : OwnD K mg "followed" s_followed ["converter", "start", "text"] := own_mk X G a11 l11 c11 k11 (fun _ _ _ _ _ _ us hl => match us, hl with | [_, _, _], _ => rfl)
  have d12 : OwnD K mg "_law_pen" s_lpen ["_law_script"] := own_mk X G a12 l12 c12 k12 (fun _ _ _ _ _ _ us hl => match us, hl with | [_], _ => rfl)
  have d13 : OwnD K mg "_law_draw" s_ldraw ["_law_pen_here", "_law_many"] := own_mk X G a13 l13 c13 k13 (fun _ _ _ _ _ _ us hl => match us, hl with | [_, _], _ => rfl)
  have d14 : OwnD K mg "_law_pick" s_lpick ["_law_pen_here", "_law_some"] := own_mk X G a14 l14 c14 k14 (fun _ _ _ _ _ _ us hl => match us, hl with | [_, _], _ => rfl)
  have d15 : OwnD K mg "_law_plan" s_lplan ["_law_pen_here", "_law_most"] := own_mk X G a15 l15 c15 k15 (fun _ _ _ _ _ _ us hl => match us, hl with | [_, _], _ => rfl)
  have d16 : OwnD K mg "_law_made" s_lmade ["_law_plan_here"] := own_mk X G a16 l16 c16 k16 (fun _ _ _ _ _ _ us hl => match us, hl with | [_], _ => rfl)
  have d17 : OwnD K mg "_law_run" s_lrun ["_law_plan_here", "_law_text_here"] := own_mk X G a17 l17 c17 k17 (fun _ _ _ _ _ _ us hl => match us, hl with | [_, _], _ => rfl)
  have d18 : OwnD K mg "_law_text" s_ltext ["_law_pen_here", "_law_plan_here", "_law_most"] := own_mk X G a18 l18 c18 k18 (fun _ _ _ _ _ _ us hl => match us, hl with | [_, _, _], _ => rfl)
  have d19 : OwnD K mg "_law_heard" s_lheard ["_law_call"] := own_mk X G a19 l19 c19 k19 (fun _ _ _ _ _ _ us hl => match us, hl with | [_], _ => rfl)
  have d20 : OwnD K mg "_law_heights" s_lheights ["_law_plan_here", "_law_states", "_law_text_here"] := own_mk X G a20 l20 c20 k20 (fun _ _ _ _ _ _ us hl => match us, hl with | [_, _, _], _ => rfl)
  have d21 : OwnD K mg "law" s_law ["_law_script"] := own_mk X G a21 l21 c21 k21 (fun _ _ _ _ _ _ us hl => match us, hl with | [_], _ => rfl)
  have d22 : OwnD K mg "check_converter" s_check_converter ["converter"] := own_mk X G a22 l22 c22 k22 (fun _ _ _ _ _ _ us hl => match us, hl with | [_], _ => rfl)
  have d23 : OwnD K mg "steps_along" s_steps_along ["converter", "text"] := own_mk X G a23 l23 c23 k23 (fun _ _ _ _ _ _ us hl => match us, hl with | [_, _], _ => rfl)
  have d24 : OwnD K mg "run" s_run ["converter", "text"] := own_mk X G a24 l24 c24 k24 (fun _ _ _ _ _ _ us hl => match us, hl with | [_, _], _ => rfl)
  have F25 := fun_mk (st := s_climbs) l25 c25 k25
  have d25 : OwnK K mg "climbs" s_climbs ["converter", "text"] ["text", "converter"] := ⟨f25, _, PySem.W.mg_of X G a25, F25, F25.binds (fun _ _ _ _ _ _ us hl => match us, hl with | [_, _], _ => rfl), fun s ws hl => match ws, hl with | [_, _], _ => .of_eq rfl⟩
  unfold chk at c
  simp only [Bool.and_eq_true, List.all_eq_true, decide_eq_true_eq] at c
  obtain ⟨cT, c1, c3, c4, c6, c7, e60, e61, e62, cC⟩ := c
  have T : Txt K mg := ⟨fun x hx => PySem.W.mg_none_of X G (c1 x hx), ⟨_, PySem.W.mg_of X G G0⟩, ⟨_, PySem.W.mg_of X G G1⟩, ⟨_, PySem.W.mg_of X G G2⟩, ⟨_, PySem.W.mg_of X G G3⟩, d0, d1, d2, d3, d4, d5, d6, d7, d8, d9, d10, d11, d12, d13, d14, d15, d16, d17, d18, d19, d20, d21⟩
  have mC := PySem.W.mg_of X G A
  have eC : gC mg = C := adr_of mC
  rw [A] at cC
  replace cC : (ownB K ["start", "states", "letters", "steps", "tails"] C && clsB K C) = true := cC
  rw [Bool.and_eq_true] at cC
  obtain ⟨cC, cD⟩ := cC
  unfold clsB at cD
  simp only [Bool.and_eq_true, decide_eq_true_eq] at cD
  obtain ⟨h0, h1, h2, h3, h4, h5, h6, h7, h8, h9, h10⟩ := cD
  obtain ⟨o1, o2, o3, o4⟩ := own_of cC
  have nA : ∀ x ∈ ["start", "states", "letters", "steps", "tails"], NoAttr K (gC mg) x := fun x hx => by
    rw [eC]
    simp only [List.mem_cons, List.not_mem_nil, or_false] at hx
    rcases hx with rfl | rfl | rfl | rfl | rfl <;> exact o2 _ (by decide)
  have TC : TxC K mg := by
    refine ⟨T, by rw [eC]; exact mC, by rw [eC]; exact o1, fun x hx => nA x hx, ?_, ?_, ?_⟩
    all_goals rw [eC]
    · exact ⟨_, ⟨N0, ⟨_, rfl⟩, O0, by decide⟩⟩
    · exact ⟨_, ⟨N1, ⟨_, rfl⟩, O1, by decide⟩⟩
    · exact ⟨f40, _, ⟨o3, I40, J40, o4⟩, mdef (x := "__init__") (q := "Converter.__init__") (st := s_init) l40 c40 k40,
        (mdef (x := "__init__") (q := "Converter.__init__") (st := s_init) l40 c40 k40).bindsN fun _ _ _ _ _ _ us hl => match us, hl with | [_, _, _, _], _ => rfl⟩
  have TM : TxM K mg := by
    refine ⟨TC, by rw [eC]; exact h0, h1, h2, by rw [eC]; exact h3, by rw [eC]; exact h4, fun t ht => ?_⟩
    rw [eC]
    simp only [List.mem_cons, List.not_mem_nil, or_false] at ht
    rcases ht with rfl | rfl | rfl | rfl | rfl | rfl
    · exact h5
    · exact h6
    · exact h7
    · exact h8
    · exact h9
    · exact h10
  have TA : TxA K mg := ⟨TM, d22, d23, d24, d25⟩
  have TH : TxH K mg := by
    refine ⟨T, ?_, fun x hx => (ex_of X G (c3 x hx)).1, fun x hx => (ex_of X G (c3 x hx)).2.1, fun x hx => (ex_of X G (c3 x hx)).2.2, fun x hx y hy => kit_of2 X G (c4 x hx y hy), fun x hx => exm_of2 X G (c6 x hx)⟩
    split at c7
    · rename_i D hD
      rw [adr_of (PySem.W.mg_of X G hD)]
      exact PySem.W.mg_of X G hD
    · cases c7
  have E60 := errK_of X G e60
  have x60 : adr mg "BadConverter" = D60 := adr_of (PySem.W.mg_of X G A60)
  have E61 := errK_of X G e61
  have x61 : adr mg "BadWord" = D61 := adr_of (PySem.W.mg_of X G A61)
  have E62 := errK_of X G e62
  have x62 : adr mg "NoStep" = D62 := adr_of (PySem.W.mg_of X G A62)
  have RZ : ∀ base : Heap, ErrR P w K mg base := fun base => by
    refine ⟨?_, ?_, ?_⟩
    · have F := fun_mk (st := s_iBadConverter) l60 c60 k60
      exact ⟨E60.mgx, f60, _, ⟨E60.T, by rw [x60]; exact I60, T60⟩, F.binds fun _ _ _ _ _ _ us hl => match us, hl with | [_, _], _ => rfl,
        ini1d E60 F ⟨rfl, rfl, rfl, by decide +kernel, rfl, by decide +kernel, by decide +kernel⟩ fun _ _ _ _ _ _ => pss_one (ps_ost (pv 0) (pv 1))⟩
    · have F := fun_mk (st := s_iBadWord) l61 c61 k61
      exact ⟨E61.mgx, f61, _, ⟨E61.T, by rw [x61]; exact I61, T61⟩, F.binds fun _ _ _ _ _ _ us hl => match us, hl with | [_, _], _ => rfl,
        ini1d E61 F ⟨rfl, rfl, rfl, by decide +kernel, rfl, by decide +kernel, by decide +kernel⟩ fun _ _ _ _ _ _ => pss_one (ps_ost (pv 0) (pv 1))⟩
    · have F := fun_mk (st := s_iNoStep) l62 c62 k62
      exact ⟨E62.mgx, f62, _, ⟨E62.T, by rw [x62]; exact I62, T62⟩, F.binds fun _ _ _ _ _ _ us hl => match us, hl with | [_, _, _], _ => rfl,
        ini2d E62 F ⟨rfl, rfl, rfl, by decide +kernel, rfl, by decide +kernel, by decide +kernel⟩ fun _ _ _ _ _ _ => pss_cons (ps_ost (pv 0) (pv 1)) (pss_one (ps_ost (pv 0) (pv 2)))⟩
  obtain ⟨c_0, P_0, t_0⟩ := tbs "law" (by decide)
  have e_0 := tab_code X G a21 l21 t_0
  have F_0 := funC_mk (st := s_law) l21 c21 k21 e_0
  have G_0 := fun_mk (st := s_law) l21 c21 k21
  have FL := fun_mk (st := s_law) l21 c21 k21
  obtain rfl : f21 = fa := Value.ref.inj (Option.some.inj ((PySem.W.mg_of X G a21).symm.trans hmg))
  refine ⟨PySem.W.fnOf "law" "law" (defArgs s_law) (defBody s_law) (defScope s_law) .none kV21 dc21 pm21 an21 cd21 ct21, [(c_0, P_0)], spLaw K P_0, fun p hp => ?_, fun p hp => ?_, fun s v => .of_eq rfl, fun H a ns hl hT hS => ?_, fun base KB GB TB => ?_⟩
  · obtain rfl := List.mem_singleton.mp hp
    exact ⟨_, t_0⟩
  · obtain rfl := List.mem_singleton.mp hp
    obtain ⟨_, _, _, _, _, _, _, _, e⟩ := t_0
    exact tabless_none X cT e
  · refine ⟨a, ns, rfl, hS, hl, fun p hp => ?_, fun _ => rfl⟩
    obtain rfl := List.mem_singleton.mp hp
    exact .nil (hT (c_0, P_0) List.mem_cons_self)
  · exact law_g TA TH RZ F_0 (TB (c_0, P_0) List.mem_cons_self)
end KC

open PySem PySem.W PyProof.Rows L2 in
set_option maxRecDepth 100000 in
set_option maxHeartbeats 0 in
theorem PySem.Challenge.cw_headgap_k25_runs_of_texts_holds : PySem.Challenge.rw_headgap_k25_runs_of_texts.Holds := by
  w_on; o_law; k_head; (case hw => w_witness2)
  k_fill
  refine L2.walk_ofTG (n := 63) (k := 9) (x := "_law_script") ["law"]
    (l := PySem.Challenge.rw_headgap_k25_runs_of_texts) rfl (by decide) rfl ?R ⟨rfl, by decide, by decide⟩ (fun w h Y => PySem.W.km_in_of Y) ?F
  case R => kernel_rfl
  case F =>
    intro w mg fa h KX G hmg tbs
    refine' KC.fin_mk KX G hmg tbs ?c ?a0 ?l0 ?c0 ?k0 ?a1 ?l1 ?c1 ?k1 ?a2 ?l2 ?c2 ?k2 ?a3 ?l3 ?c3 ?k3 ?a4 ?l4 ?c4 ?k4 ?a5 ?l5 ?c5 ?k5 ?a6 ?l6 ?c6 ?k6 ?a7 ?l7 ?c7 ?k7 ?a8 ?l8 ?c8 ?k8 ?a9 ?l9 ?c9 ?k9 ?a10 ?l10 ?c10 ?k10 ?a11 ?l11 ?c11 ?k11 ?a12 ?l12 ?c12 ?k12 ?a13 ?l13 ?c13 ?k13 ?a14 ?l14 ?c14 ?k14 ?a15 ?l15 ?c15 ?k15 ?a16 ?l16 ?c16 ?k16 ?a17 ?l17 ?c17 ?k17 ?a18 ?l18 ?c18 ?k18 ?a19 ?l19 ?c19 ?k19 ?a20 ?l20 ?c20 ?k20 ?a21 ?l21 ?c21 ?k21 ?a22 ?l22 ?c22 ?k22 ?a23 ?l23 ?c23 ?k23 ?a24 ?l24 ?c24 ?k24 ?a25 ?l25 ?c25 ?k25 ?G0 ?G1 ?G2 ?G3 ?A ?N0 ?O0 ?N1 ?O1 ?I40 ?J40 ?l40 ?c40 ?k40 ?A60 ?I60 ?T60 ?l60 ?c60 ?k60 ?A61 ?I61 ?T61 ?l61 ?c61 ?k61 ?A62 ?I62 ?T62 ?l62 ?c62 ?k62
    (case c => kernel_rfl)
    (case a0 => k_is)
    (case l0 => k_is)
    (case c0 => k_is)
    (case k0 => k_is)
    (case a1 => k_is)
    (case l1 => k_is)
    (case c1 => k_is)
    (case k1 => k_is)
    (case a2 => k_is)
    (case l2 => k_is)
    (case c2 => k_is)
    (case k2 => k_is)
    (case a3 => k_is)
    (case l3 => k_is)
    (case c3 => k_is)
    (case k3 => k_is)
    (case a4 => k_is)
    (case l4 => k_is)
    (case c4 => k_is)
    (case k4 => k_is)
    (case a5 => k_is)
    (case l5 => k_is)
    (case c5 => k_is)
    (case k5 => k_is)
    (case a6 => k_is)
    (case l6 => k_is)
    (case c6 => k_is)
    (case k6 => k_is)
    (case a7 => k_is)
    (case l7 => k_is)
    (case c7 => k_is)
    (case k7 => k_is)
    (case a8 => k_is)
    (case l8 => k_is)
    (case c8 => k_is)
    (case k8 => k_is)
    (case a9 => k_is)
    (case l9 => k_is)
    (case c9 => k_is)
    (case k9 => k_is)
    (case a10 => k_is)
    (case l10 => k_is)
    (case c10 => k_is)
    (case k10 => k_is)
    (case a11 => k_is)
    (case l11 => k_is)
    (case c11 => k_is)
    (case k11 => k_is)
    (case a12 => k_is)
    (case l12 => k_is)
    (case c12 => k_is)
    (case k12 => k_is)
    (case a13 => k_is)
    (case l13 => k_is)
    (case c13 => k_is)
    (case k13 => k_is)
    (case a14 => k_is)
    (case l14 => k_is)
    (case c14 => k_is)
    (case k14 => k_is)
    (case a15 => k_is)
    (case l15 => k_is)
    (case c15 => k_is)
    (case k15 => k_is)
    (case a16 => k_is)
    (case l16 => k_is)
    (case c16 => k_is)
    (case k16 => k_is)
    (case a17 => k_is)
    (case l17 => k_is)
    (case c17 => k_is)
    (case k17 => k_is)
    (case a18 => k_is)
    (case l18 => k_is)
    (case c18 => k_is)
    (case k18 => k_is)
    (case a19 => k_is)
    (case l19 => k_is)
    (case c19 => k_is)
    (case k19 => k_is)
    (case a20 => k_is)
    (case l20 => k_is)
    (case c20 => k_is)
    (case k20 => k_is)
    (case a21 => k_is)
    (case l21 => k_is)
    (case c21 => k_is)
    (case k21 => k_is)
    (case a22 => k_is)
    (case l22 => k_is)
    (case c22 => k_is)
    (case k22 => k_is)
    (case a23 => k_is)
    (case l23 => k_is)
    (case c23 => k_is)
    (case k23 => k_is)
    (case a24 => k_is)
    (case l24 => k_is)
    (case c24 => k_is)
    (case k24 => k_is)
    (case a25 => k_is)
    (case l25 => k_is)
    (case c25 => k_is)
    (case k25 => k_is)
    (case G0 => k_is)
    (case G1 => k_is)
    (case G2 => k_is)
    (case G3 => k_is)
    (case A => k_is)
    (case N0 => k_is)
    (case O0 => k_is)
    (case N1 => k_is)
    (case O1 => k_is)
    (case I40 => k_is)
    (case J40 => k_is)
    (case l40 => k_is)
    (case c40 => k_is)
    (case k40 => k_is)
    (case A60 => k_is)
    (case I60 => k_is)
    (case T60 => k_is)
    (case l60 => k_is)
    (case c60 => k_is)
    (case k60 => k_is)
    (case A61 => k_is)
    (case I61 => k_is)
    (case T61 => k_is)
    (case l61 => k_is)
    (case c61 => k_is)
    (case k61 => k_is)
    (case A62 => k_is)
    (case I62 => k_is)
    (case T62 => k_is)
    (case l62 => k_is)
    (case c62 => k_is)
    (case k62 => k_is)
#print axioms PySem.Challenge.cw_headgap_k25_runs_of_texts_holds
