import PyProof.Rows.All
import HandS.StrMore
import Wide.All
import OpenK.AllK
import Wide.FinOn
import HandS.ExcInit
import HandS.Words
import HandS.List
import KE.KExcIs
import PyProof.ReprRoads
import HandS.Ends
import HandS.ExcValue
import HandS.IsInst
import HandS.Property
import HandS.ClsMeth
import HandS.Gcd
import HandS.ForMost
import KE.DataMinMax
import HandS.SortKw
import HandS.Defaults
import KE.KOpsOwn
import PyProof.InstNe
import HandS.Wide
import HandS.OwnEq
import HandS.MakeKwOnly
import HandS.Walk
import HandS.Iter
import HandS.Text
import HandS.DictComp
import PyProof.Draws
import PyProof.EnumMake
import HandS.TryOnly
import HandS.ExcField
import HandS.Lambda
import HandS.WordsExc
import HandS.MakeKw
import PyProof.CallFns
import KE.KDictDisplayH
import HandS.EndTab
import OpenK.KMeth
import HandS.DeepEq
import KE.KEqNest
import HandS.Star
import OpenK.KOps
import KE.GoesMore
import PyProof.EqKinds
import PyProof.ListStr
import HandS.TupAny
import HandS.Zip
import PySem.Challenge.RW_headgap_k62_texts_cut_in_pieces
import HandS.RaiseMore
import HandS.Small
import HandS.Flow
import HandS.TupMul
set_option Elab.async false
set_option linter.all false
set_option maxRecDepth 100000
set_option maxHeartbeats 4000000
namespace PySem
end PySem
namespace L2
open PySem PySem.Spec PyProof.Rows
/-- the class's facts -/
structure XMk (K : PySem.W.Frag) (C fI : Addr) : Prop where
  T : OexC K C
  ini : PySem.W.findIn K (.ref C) "__init__" = some (some (.ref fI))
  ty : PySem.W.typeIn K (.ref fI) = some (.type "function")
end L2
namespace L2
open PySem PySem.Spec PyProof.Rows
/-- what is asked of an own exception class, so that its objects are read and asked as values -/
structure XCl (K : PySem.W.Frag) (C : Addr) : Prop where
  ga : PySem.W.findIn K (.ref C) "__getattribute__" = some (some (.builtin "BaseException.__getattribute__"))
  gg : PySem.W.findIn K (.ref C) "__getattr__" = some none
  ex : PySem.W.subIn K (.ref C) (.type "BaseException") = some true
  hd : PySem.W.hasDictIn K C = true
  ci : (PySem.W.clsIn K C).isSome = true
  ca : PySem.W.findIn K (.ref C) "__class__" = some (some (.builtin "object.__class__"))
  cn : PySem.W.specialIn K (.builtin "object.__class__") "__get__" = some (some (.builtin "getset_descriptor.__get__"))
  ct : PySem.W.takesIn K (.builtin "object.__class__") = some true
  co : PySem.W.mroIn K C (.type "object") = some true
end L2
namespace L2
open PySem PySem.Spec PyProof.Rows
/-- as FnOk, for callers that have no repr under way -/
structure FnG (P : Program) (w : World) (K : PySem.W.Frag) (mg : Str → Option Value) (base : Heap) (CX : CXT)
    (k : Nat) (f : Addr) (fd : FuncData) (ps : List Str) (sp : Sp) : Prop where
  len : ∀ vs H Q E, sp vs H Q E → vs.length = ps.length
  run : ∀ (A : Around) (outer : List Env) (s : Shared) (H : Hp) (args : Args) (us : List Value) (vs : List V)
    (Q : VK) (E : XK), A.guards = some [] → Room k A → Env0 P w K mg base A outer s H →
    BindsTo s fd args (ps.zip us) → Vals vs us → sp vs H Q E →
    codeAny (model P w) A (.call (.ref f) args) (CR CX outer P w H s Q E) s
section
variable {P : Program} {w : World} {K : PySem.W.Frag} {mg : Str → Option Value} {base : Heap} {CX : CXT} {k : Nat}
  {f : Addr} {fd : FuncData} {ps : List Str} {sp : Sp}
theorem FnOk.g (F : FnOk P w K mg base CX k f fd ps sp) : FnG P w K mg base CX k f fd ps sp :=
  ⟨F.len, fun A outer s H args us vs Q E _ hr he hb hv hs => F.run A outer s H args us vs Q E hr he hb hv hs⟩
theorem FnG.mono {j : Nat} (F : FnG P w K mg base CX j f fd ps sp) (h : j ≤ k) : FnG P w K mg base CX k f fd ps sp :=
  ⟨F.len, fun A outer s H args us vs Q E hg hr => F.run A outer s H args us vs Q E hg (hr.mono h)⟩
/-- the rule for a def, guards known -/
theorem Fun.okG {x qual : Str} {st : Stmt} {N : List Str} (F : Fun K x qual st f fd) (S : FnScope N ps (defScope st))
    (len : ∀ vs H Q E, sp vs H Q E → vs.length = ps.length)
    (hbody : ∀ (cdv : Value) (A : Around) (outer : List Env) (s : Shared) (H : Hp) (vs : List V) (Q : VK) (E : XK),
      (A.deeper (envOfC qual (defScope st) s.heap.objs.size f cdv)).guards = some [] →
      Room k (A.deeper (envOfC qual (defScope st) s.heap.objs.size f cdv)) → sp vs H Q E →
      ∃ t, PSs (cxOf CX0 P w K mg base N qual (defScope st) f cdv A outer s H E).nox (defBody st) t ∧
        t { nx := fun _ H' => Q .non H', rt := Q } (start N vs) H) :
    FnG P w K mg base CX0 (k + 1) f fd ps sp := by
  obtain ⟨oc, od, kV, doc, pm, an, cdv, ct, osl, rfl, lk, hcd⟩ := F.ex
  refine ⟨len, fun A outer s H args us vs Q E hg hr e0 hb r hsp => ?_⟩
  have hl := len _ _ _ _ hsp
  have KX : K.In s.heap := e0.mod.kin.keeps fun b o e => (e0.bs b o e).1
  have lim : s.heap.NoLimit := e0.mod.nolimit.keeps fun b o e => (e0.bs b o e).1
  have kinds : ∀ y ∈ ps.zip us, (defScope st).names.lookup y.1 = some .local ∨
      ((defScope st).names.lookup y.1 = some .cell ∧
        ((cellsFrom (s.heap.objs.size + 1) (defScope st).names []).lookup y.1).isSome = true) := by
    rintro ⟨n, v⟩ hy
    rcases S.par n (List.of_mem_zip hy).1 with q | q
    · exact .inl q
    · exact .inr ⟨q, PySem.W.cellsFrom_some _ _ _ (.inl q)⟩
  refine codeAny_call_function hr.depth (KX _ _ lk) rfl S.co S.gen rfl (PySem.W.codeRec_of KX hcd) (hb _ _ _ _ ?_)
  refine wpAny_newFunctionEnv_cells S.kind kinds fun env he s1 x => ?_
  subst he
  refine ⟨lim.keeps x.toInCall.keep, codeAny_func ?_⟩
  have hg' : (A.deeper (envOfC qual (defScope st) s.heap.objs.size f cdv)).guards = some [] := by
    first
      | exact hg
      | simpa [Around.deeper] using hg
  obtain ⟨t, ht0, hq⟩ := hbody cdv A outer s H vs Q E hg' (hr.deeper _) hsp
  have ht := ht0.nox
  have I : Inv (cxOf CX0 P w K mg base N qual (defScope st) f cdv A outer s H E) [] (start N vs) H s1 :=
    inv_start S hr.hd e0 hl r x
  refine wpAny_mono (ht.run [] s1 (start N vs) H _ I hq) (fun fl s' hs => ?_) fun e s' hs => hs
  have fin : ∀ {σ' : St} {H' : Hp} {v : V} {u : Value},
      Inv (cxOf CX0 P w K mg base N qual (defScope st) f cdv A outer s H E) [] σ' H' s' → RelV v u → Q v H' →
      CE outer P w H s Q u s' := fun J rv q => ⟨_, _, J.os, J.bare, J.base, J.hok, rv, q⟩
  cases fl with
  | ret u =>
    obtain ⟨v, σ', H', J, rv, q⟩ := hs
    exact fin J rv q
  | next =>
    obtain ⟨σ', H', J, q⟩ := hs
    exact fin (v := V.non) (u := Value.none) J rfl q
  | brk =>
    obtain ⟨_, _, _, q⟩ := hs
    exact False.elim q
  | cont =>
    obtain ⟨_, _, _, q⟩ := hs
    exact False.elim q
end
section
variable {X : Cx} {CX : CXT} {k : Nat} {f : Addr} {fd : FuncData} {ps : List Str} {sp : Sp} {dvs : List V}
  {ds : List Value} {E : XK} {x : Str} {p pos : Pos} {e : Expr} {es : List Expr} {t : TA}
theorem run_fnG {pins : List (Addr × Obj)} {σ : St} {H : Hp} {s : Shared} {Q : VK} {us : List Value} {vs : List V}
    (F : FnG X.prog X.w X.K X.mg X.base CX k f fd ps sp) (hA : X.A.guards = some []) (hr : Room k X.A)
    (hb : Binds X.K fd ps ds) (hd : Vals dvs ds) (hx : Passes CX X E) (I : Inv X pins σ H s) (r : Vals vs us)
    (h : sp (vs ++ dvs) H Q E) : wpAny (model X.prog X.w) X.A (call (.ref f) us) (EP X pins σ Q) X.xe s := by
  have r2 : Vals (vs ++ dvs) (us ++ ds) := r.append hd
  have hl : (us ++ ds).length = ps.length := by
    rw [← r2.length]
    exact F.len _ _ _ _ h
  refine wpAny_call (codeAny_mono (F.run X.A X.stack s H ⟨us, []⟩ (us ++ ds) (vs ++ dvs) Q E hA hr I.env0
    (hb s us I.kIn hl) r2 h) fun rr s' z => ?_)
  cases rr with
  | error e => exact hx pins σ H s e s' I z
  | ok fl =>
    cases fl with
    | ret u => exact I.after z
    | next => exact False.elim z
    | brk => exact False.elim z
    | cont => exact False.elim z
theorem pe_callG (F : FnG X.prog X.w X.K X.mg X.base CX k f fd ps sp) (hA : X.A.guards = some []) (hr : Room k X.A)
    (hg : Gl X x) (hm : X.mg x = some (.ref f)) (hk : PySem.W.keepIn X.K (.ref f) = true) (hb : Binds X.K fd ps ds)
    (hd : Vals dvs ds) (hx : Passes CX X E) (ha : PA X (e :: es) t)
    (hdb : (x == ("__debug__" : Str)) = false := by decide)
    (he : starEach (e :: es) X.env = (false, eval e X.env) :: starEach es X.env := by rfl)
    (hpl : (backTo pos (starEach es X.env)).any (·.1) = false := by rfl) :
    PE X (.Call (.Name x p) (e :: es) [] pos) (tCall sp dvs E t) := by
  refine ⟨fun pins s σ H Q I h => ?_⟩
  refine wpAny_Call_Name_kw (ld_glob I hg hm ?_ hdb)
  refine PySem.W.callWith_K (h₀ := X.base) I.ok.mod.kin hk
    (thn (ha.run pos pins s σ H _ I h) fun us s1 ⟨vs, H1, I1, r, q⟩ => ⟨I1.kIn, ?_⟩) he hpl
  exact run_fnG F hA hr hb hd hx I1 r q
end
end L2
namespace L2
open PySem PySem.Spec PyProof.Rows
/-- the address of what a module's name holds -/
def adr (mg : Str → Option Value) (x : Str) : Addr := match mg x with
  | some (.ref a) => a
  | _ => 0
theorem adr_of {mg : Str → Option Value} {x : Str} {a : Addr} (h : mg x = some (.ref a)) : adr mg x = a := by
  unfold adr
  rw [h]
/-- a def of the top, by its name -/
def OwnD (K : PySem.W.Frag) (mg : Str → Option Value) (x : Str) (st : Stmt) (ps : List Str) : Prop :=
  ∃ f fd, mg x = some (.ref f) ∧ Fun K x x st f fd ∧ Binds K fd ps []
/-- what a def of the top keeps -/
def Kp (P : Program) (w : World) (K : PySem.W.Frag) (mg : Str → Option Value) (base : Heap) (k : Nat) (x : Str)
    (ps : List Str) (sp : Sp) : Prop :=
  ∃ f fd, mg x = some (.ref f) ∧ PySem.W.keepIn K (.ref f) = true ∧ Binds K fd ps [] ∧
    FnG P w K mg base CX0 k f fd ps sp
section
variable {P : Program} {w : World} {K : PySem.W.Frag} {mg : Str → Option Value} {base : Heap}
theorem OwnD.ok {x : Str} {st : Stmt} {N ps : List Str} {k : Nat} {sp : Sp} (O : OwnD K mg x st ps)
    (S : FnScope N ps (defScope st)) (len : ∀ vs H Q E, sp vs H Q E → vs.length = ps.length)
    (hbody : ∀ (f : Addr) (cdv : Value) (A : Around) (outer : List Env) (s : Shared) (H : Hp) (vs : List V) (Q : VK)
      (E : XK), (A.deeper (envOfC x (defScope st) s.heap.objs.size f cdv)).guards = some [] →
      Room k (A.deeper (envOfC x (defScope st) s.heap.objs.size f cdv)) → sp vs H Q E →
      ∃ t, PSs (cxOf CX0 P w K mg base N x (defScope st) f cdv A outer s H E).nox (defBody st) t ∧
        t { nx := fun _ H' => Q .non H', rt := Q } (start N vs) H) :
    Kp P w K mg base (k + 1) x ps sp := by
  obtain ⟨f, fd, hm, F, b⟩ := O
  exact ⟨f, fd, hm, F.kp, b, F.okG S len fun cdv A outer s H vs Q E hg hr h => hbody f cdv A outer s H vs Q E hg hr h⟩
theorem own_mk {h : Heap} {x : Str} {st : Stmt} {ps : List Str} {f : Addr} {od an : Option Addr}
    {sl : Array (Option Value)} {oc kV dc pm cd ct : Value} (X : K.In h) (G : h.Ns mainGlobals mg)
    (a : PySem.W.nsIn K mainGlobals x = some (some (.ref f)))
    (l : K.lookup f = some ⟨oc, od, .func (PySem.W.fnOf x x (defArgs st) (defBody st) (defScope st) .none kV dc pm an cd ct), sl⟩)
    (c : PySem.W.codeIn K cd x = true) (k : PySem.W.keepIn K (.ref f) = true)
    (b : ∀ (kV doc pm : Value) (an : Option Addr) (cdv ct : Value) (us : List Value), us.length = ps.length →
      bindArgs (PySem.W.fnOf x x (defArgs st) (defBody st) (defScope st) .none kV doc pm an cdv ct) ⟨us, []⟩ =
        pure (ps.zip us)) : OwnD K mg x st ps :=
  have F := fun_mk (st := st) l c k
  ⟨f, _, PySem.W.mg_of X G a, F, F.binds b⟩
end
section
variable {X : Cx} {k j : Nat} {ps : List Str} {sp : Sp} {x : Str} {p pos : Pos} {e : Expr} {es : List Expr} {t : TA}
/-- f(e, ..) by what f keeps -/
theorem pe_kp (F : Kp X.prog X.w X.K X.mg X.base k x ps sp) (hA : X.A.guards = some []) (hr : Room j X.A)
    (hg : Gl X x) (ha : PA X (e :: es) t) (hj : k ≤ j := by decide)
    (hdb : (x == ("__debug__" : Str)) = false := by decide)
    (he : starEach (e :: es) X.env = (false, eval e X.env) :: starEach es X.env := by rfl)
    (hpl : (backTo pos (starEach es X.env)).any (·.1) = false := by rfl)
    (hx : Passes CX0 X E0 := by exact pass0) :
    PE X (.Call (.Name x p) (e :: es) [] pos) (tCall sp [] E0 t) := by
  obtain ⟨f, fd, hm, hk, hb, G⟩ := F
  exact pe_callG G hA (hr.mono hj) hg hm hk hb .nil hx ha hdb he hpl
end
end L2
namespace L2
open PySem PySem.Spec PyProof.Rows
section
variable {X : Cx}
theorem fmod_bd {i j : Int} (h : 0 < j) : 0 ≤ i.fmod j ∧ i.fmod j < j := by
  rw [Int.fmod_eq_emod_of_nonneg _ (by omega)]
  exact ⟨Int.emod_nonneg _ (by omega), Int.emod_lt_of_pos _ h⟩
/-- a % b, some number below b -/
def rModW : R2 := fun x y H Q => ∃ i j, x = .int i ∧ y = .int j ∧ 0 < j ∧ ∀ r, 0 ≤ r → r < j → Q (.int r) H
theorem op_modW : OpR X (binaryOp .Mod) rModW := by
  intro pins s σ H x y v u Q I rx ry h
  obtain ⟨i, j, ex, ey, hj, h⟩ := h
  exact op_modN pins s σ H x y v u Q I rx ry ⟨i, j, ex, ey, by omega, h _ (fmod_bd hj).1 (fmod_bd hj).2⟩
/-- a // b, the quotient with its rest -/
def rDivW : R2 := fun x y H Q => ∃ i j, x = .int i ∧ y = .int j ∧ 0 < j ∧ j < 1073741824 ∧
  ∀ q r, i = j * q + r → 0 ≤ r → r < j → Q (.int q) H
theorem op_divW : OpR X (binaryOp .FloorDiv) rDivW := by
  intro pins s σ H x y v u Q I rx ry h
  obtain ⟨i, j, ex, ey, hj, h2, h⟩ := h
  have b := fmod_bd (i := i) hj
  refine op_fdivN pins s σ H x y v u Q I rx ry ⟨i, j, ex, ey, ⟨by omega, by omega⟩, h _ _ ?_ b.1 b.2⟩
  have e := Int.fmod_add_mul_fdiv i j
  omega
/-- a ** b, some number -/
def rPowW : R2 := fun x y H Q => ∃ i j, x = .int i ∧ y = .int j ∧ 0 ≤ j ∧ j ≤ 1000000 ∧ i.natAbs < 2 ^ 64 ∧
  ∀ z, Q (.int z) H
theorem op_powW : OpR X (binaryOp .Pow) rPowW := by
  intro pins s σ H x y v u Q I rx ry h
  obtain ⟨i, j, ex, ey, h1, h2, h3, h⟩ := h
  exact op_pow pins s σ H x y v u Q I rx ry ⟨i, j, ex, ey, ⟨h1, h2, h3⟩, h _⟩
/-- a * b, as a letter with its equation -/
def rMulW : R2 := fun x y H Q => ∃ i j, x = .int i ∧ y = .int j ∧ ((-(2 ^ 64) < i ∧ i < 2 ^ 64) ∨ (-(2 ^ 64) < j ∧ j < 2 ^ 64)) ∧
  ∀ z, z = i * j → Q (.int z) H
theorem op_mulW' : OpR X (binaryOp .Mult) rMulW := by
  intro pins s σ H x y v u Q I rx ry h
  obtain ⟨i, j, ex, ey, h1, h⟩ := h
  exact op_mul pins s σ H x y v u Q I rx ry ⟨i, j, ex, ey, h1, h _ rfl⟩
/-- int(n), n an int -/
theorem call_intI : CallR X (.type "int") (fun xs H Q => ∃ i, xs = [.int i] ∧ Q (.int i) H) := by
  intro pins s σ H xs us Q I r h
  obtain ⟨i, e, h⟩ := h
  exact call_int1 pins s σ H xs us Q I r (.inl ⟨i, e, h⟩)
/-- int(b), b a bool: 0 or 1 -/
theorem call_intB : CallR X (.type "int") (fun xs H Q => ∃ b, xs = [.bl b] ∧ ∀ i, 0 ≤ i → i ≤ 1 → Q (.int i) H) := by
  intro pins s σ H xs us Q I r h
  obtain ⟨b, e, h⟩ := h
  refine call_int1 pins s σ H xs us Q I r (.inr ⟨b, e, h _ ?_ ?_⟩)
  · cases b <;> decide
  · cases b <;> decide
end
theorem upd_new {H : Hp} {p q : Addr} {o u : HO} (hn : H p = none) (h : H q = some o) : upd H p u q = some o :=
  (upd_ne (ne_of_none h hn)).trans h
theorem upd_oth {H : Hp} {p q : Addr} {o u : HO} (hn : q ≠ p) (h : H q = some o) : upd H p u q = some o :=
  (upd_ne hn).trans h
theorem Same.new {H : Hp} {p : Addr} {u : HO} (hn : H p = none) : Same H (upd H p u) := fun b o e => upd_new hn e
theorem at_map {ns : List Int} {r : Int} (h0 : 0 ≤ r) (h1 : r < (ns.length : Int)) :
    ∃ x, atI (ns.map V.int) r = some (.int x) := by
  have hl : r.toNat < ns.length := by omega
  refine ⟨ns[r.toNat], ?_⟩
  unfold atI ixN
  rw [List.length_map, if_pos h0, if_pos h1]
  simp [List.getElem?_eq_getElem hl]
theorem at_in {α : Type} {xs : List α} {r : Int} (h0 : 0 ≤ r) (h1 : r < (xs.length : Int)) :
    ∃ x, atI xs r = some x ∧ x ∈ xs := by
  have hl : r.toNat < xs.length := by omega
  refine ⟨xs[r.toNat], ?_, List.getElem_mem _⟩
  unfold atI ixN
  rw [if_pos h0, if_pos h1]
  simp [List.getElem?_eq_getElem hl]
/-- data of a list of ints -/
theorem dp_ints {K : PySem.W.Frag} {H : Hp} : ∀ ns : List Int, DpAll K H (ns.map V.int) (ns.map PyData.int)
  | [] => .nil
  | n :: ns => .cons (.int n) (dp_ints ns)
/-- a statement and what follows it, met at a word -/
def tMid (t u : TS) : TS := fun D σ H => ∃ W : St → Hp → Prop, t { D with nx := W } σ H ∧ ∀ σ1 H1, W σ1 H1 → u D σ1 H1
theorem pss_mid {X : Cx} {st : Stmt} {rest : List Stmt} {t u : TS} (a : PS X st t) (b : PSs X rest u) :
    PSs X (st :: rest) (tMid t u) := by
  constructor
  intro pins s σ H D I h
  obtain ⟨W, hw, hu⟩ := h
  refine wpAny_execs_cons (thn (a.run pins s σ H { D with nx := W } I hw) fun f s1 z => ?_)
  cases f with
  | next =>
    obtain ⟨σ1, H1, I1, z⟩ := z
    exact b.run pins s1 σ1 H1 D I1 (hu σ1 H1 z)
  | ret v => exact z
  | brk => exact z
  | cont => exact z
theorem len_lst {K : PySem.W.Frag} {H : Hp} {c : Addr} {xs : List V} (h : H c = some (.lst xs)) :
    LenV K (.ref c) H xs.length := .inl ⟨xs, SqL.of h, rfl⟩
end L2
namespace L2
open PySem PySem.Spec PyProof.Rows
theorem PE.imp {X : Cx} {e : Expr} {t t' : TE} (h : PE X e t) (k : ∀ σ H Q, t' σ H Q → t σ H Q) : PE X e t' :=
  ⟨fun pins s σ H Q I q => h.run pins s σ H Q I (k σ H Q q)⟩
/-- all but what stands at p is as it was -/
def But (p : Addr) (H H' : Hp) : Prop := ∀ b, b ≠ p → ∀ o, H b = some o → H' b = some o
theorem But.refl {p : Addr} {H : Hp} : But p H H := fun _ _ _ e => e
theorem But.trans {p : Addr} {H H1 H2 : Hp} (a : But p H H1) (b : But p H1 H2) : But p H H2 :=
  fun c hc o e => b c hc o (a c hc o e)
theorem Same.but {p : Addr} {H H' : Hp} (h : Same H H') : But p H H' := fun b _ o e => h b o e
/-- an error object, its fields the last one first -/
def XV (H : Hp) (a C : Addr) (fs : List (Str × V)) : Prop :=
  (fs = [] ∧ H a = some (exo a C none)) ∨ ∃ dx, H a = some (exo a C (some dx)) ∧ H dx = some (exd dx fs)
theorem XV.same {H H' : Hp} {a C : Addr} {fs : List (Str × V)} (h : XV H a C fs) (s : Same H H') : XV H' a C fs := by
  rcases h with ⟨e, h⟩ | ⟨dx, h, g⟩
  · exact .inl ⟨e, s _ _ h⟩
  · exact .inr ⟨dx, s _ _ h, s _ _ g⟩
/-- an error class of the top, by its name -/
structure ErrK (K : PySem.W.Frag) (mg : Str → Option Value) (x : Str) (fs : List Str) : Prop where
  mgx : mg x = some (.ref (adr mg x))
  T : OexC K (adr mg x)
  X : XCl K (adr mg x)
  na : ∀ f ∈ fs, PySem.W.findIn K (.ref (adr mg x)) f = some none
end L2
namespace L2
open PySem PySem.Spec PyProof.Rows
def kd : Key → PyData
  | .inl i => .int i
  | .inr x => .str x
mutual
/-- what a value is as data; dicts by int and text keys -/
inductive Dq (K : PySem.W.Frag) (H : Hp) : V → PyData → Prop
  | non : Dq K H .non .none
  | bl (b : Bool) : Dq K H (.bl b) (.bool b)
  | int (i : Int) : Dq K H (.int i) (.int i)
  | str (x : Str) : Dq K H (.str x) (.str x)
  | lst {a : Addr} {xs : List V} {ds : List PyData} : SqL K H a xs → DqAll K H xs ds → Dq K H (.ref a) (.list ds)
  | tup {a : Addr} {xs : List V} {ds : List PyData} : SqT K H a xs → DqAll K H xs ds → Dq K H (.ref a) (.tuple ds)
  | dic {a : Addr} {kvs : List (Key × V)} {ds : List (PyData × PyData)} : H a = some (.dK kvs) → DqKv K H kvs ds →
      Dq K H (.ref a) (.dict ds)
inductive DqAll (K : PySem.W.Frag) (H : Hp) : List V → List PyData → Prop
  | nil : DqAll K H [] []
  | cons {v : V} {vs : List V} {d : PyData} {ds : List PyData} : Dq K H v d → DqAll K H vs ds →
      DqAll K H (v :: vs) (d :: ds)
inductive DqKv (K : PySem.W.Frag) (H : Hp) : List (Key × V) → List (PyData × PyData) → Prop
  | nil : DqKv K H [] []
  | cons {k : Key} {v : V} {vs : List (Key × V)} {d : PyData} {ds : List (PyData × PyData)} : Dq K H v d →
      DqKv K H vs ds → DqKv K H ((k, v) :: vs) ((kd k, d) :: ds)
end
section
variable {X : Cx} {pins : List (Addr × Obj)} {σ : St} {H : Hp} {s : Shared}
theorem rk_key {k : Key} {u : Value} (h : keyIs k u = true) (hs : (kd k).showable = true)
    (hz : (kd k).shown.length ≤ sizeLine) :
    Reads s.heap u (kd k) [] ∧ ∀ bs n, ReprK X.prog X.w bs s.heap n u (kd k).shown := by
  rcases keyIs_shape h with ⟨i, t, rfl, rfl⟩ | ⟨x, t, rfl, rfl⟩
  · refine ⟨Reads.int i t, fun bs n => ?_⟩
    simp only [kd, PyData.shown]
    exact .of_is (ReprIs.int t (by simpa [kd, PyData.showable] using hs)) _ _ _
  · refine ⟨Reads.str x t, fun bs n => ?_⟩
    simp only [kd, PyData.shown]
    exact .of_is (ReprIs.str x t (by simpa only [kd, PyData.shown] using hz)) _ _ _
theorem ram_app {h : Heap} {n m : Nat} {as bs : List Addr} (a : ReadAtMost h n as) (b : ReadAtMost h m bs) :
    ReadAtMost h (max n m) (as ++ bs) := by
  intro c hc
  rcases List.mem_append.mp hc with q | q
  · obtain ⟨d, xs, r, l⟩ := a c q
    exact ⟨d, xs, r, Nat.le_trans l (Nat.le_max_left _ _)⟩
  · obtain ⟨d, xs, r, l⟩ := b c q
    exact ⟨d, xs, r, Nat.le_trans l (Nat.le_max_right _ _)⟩
theorem ek_more {P : Program} {w : World} {h : Heap} {as bs : List Addr} {n m : Nat} (hs : ∀ b ∈ as, b ∈ bs) (hn : n ≤ m) :
    ∀ {es : List DictEntry} {ps : List Str}, ReprEntriesK P w as h n es ps → ReprEntriesK P w bs h m es ps
  | _, _, .nil => .nil
  | _, _, .cons a b c => .cons ((a.more hs).level_le hn) ((b.more hs).level_le hn) (ek_more hs hn c)
mutual
theorem Dq.rk (I : Inv X pins σ H s) : ∀ {v : V} {d : PyData}, Dq X.K H v d → ∀ u, RelV v u → d.showable = true →
    d.shown.length ≤ sizeLine → ∃ as bs, Reads s.heap u d as ∧ ReadAtMost s.heap d.depth bs ∧
      ReprK X.prog X.w bs s.heap d.depth u d.shown
  | _, _, .non, u, r, _, _ => by
    cases r
    exact ⟨_, [], Reads.none, fun _ h => (nomatch h), by simp only [PyData.shown]; exact .of_is ReprIs.none _ _ _⟩
  | _, _, .bl b, u, r, _, _ => by
    cases r
    exact ⟨_, [], Reads.bool b, fun _ h => (nomatch h), by simp only [PyData.shown]; exact .of_is (ReprIs.bool b) _ _ _⟩
  | _, _, .int i, u, r, hs, _ => by
    obtain ⟨t, rfl⟩ := r
    exact ⟨_, [], Reads.int i t, fun _ h => (nomatch h), by
      simp only [PyData.shown]
      exact .of_is (ReprIs.int t (by simpa [PyData.showable] using hs)) _ _ _⟩
  | _, _, .str x, u, r, _, hz => by
    obtain ⟨t, rfl⟩ := r
    exact ⟨_, [], Reads.str x t, fun _ h => (nomatch h), by
      simp only [PyData.shown]
      exact .of_is (ReprIs.str x t (by simpa only [PyData.shown] using hz)) _ _ _⟩
  | _, _, .lst (a := a) (ds := ds) hq ha, u, r, hs, hz => by
    cases r
    obtain ⟨its, rv, ⟨o, n, ho, hc, _, hd⟩, _⟩ := I.list hq
    have hz1 : (listText (PyData.shownAll ds)).length ≤ sizeLine := by simpa only [PyData.shown] using hz
    obtain ⟨as, bs, rd, hb, hk⟩ := DqAll.rk I ha its rv (by simpa [PyData.showable] using hs)
      fun t ht => Nat.le_trans (listText_mem_le ht) hz1
    have R : Reads s.heap (.ref a) (.list ds) _ := .list ho hc hd rd
    have nb : a ∉ bs := not_mem_of_deeper R (by simp only [PyData.depth]; omega) hb
    refine ⟨_, a :: bs, R, ReadAtMost.cons R (by simp only [PyData.depth]; omega) hb, ?_⟩
    simp only [PyData.depth, PyData.shown]
    cases its with
    | nil =>
      cases rd
      simp only [PyData.shownAll, listText_nil]
      exact ReprK.listEmpty ho hc hd
    | cons y l => exact ReprK.list ho hc hd nb (by simpa using hk.length_eq) fun i z e => hk.item i z (by simpa using e)
  | _, _, .tup (a := a) (ds := ds) hq ha, u, r, hs, hz => by
    cases r
    obtain ⟨its, rv, ⟨o, ho, hc, n, hd⟩, _⟩ := I.tuple hq
    have hz1 : (tupleText (PyData.shownAll ds)).length ≤ sizeLine := by simpa only [PyData.shown] using hz
    obtain ⟨as, bs, rd, hb, hk⟩ := DqAll.rk I ha its rv (by simpa [PyData.showable] using hs)
      fun t ht => Nat.le_trans (tupleText_mem_le ht) hz1
    have R : Reads s.heap (.ref a) (.tuple ds) _ := .tuple ho hc hd rd
    have nb : a ∉ bs := not_mem_of_deeper R (by simp only [PyData.depth]; omega) hb
    refine ⟨_, a :: bs, R, ReadAtMost.cons R (by simp only [PyData.depth]; omega) hb, ?_⟩
    simp only [PyData.depth, PyData.shown]
    exact ReprK.tuple ho hc hd nb hk
  | _, _, .dic (a := a) (kvs := kvs) (ds := ds) hq ha, u, r, hs, hz => by
    cases r
    obtain ⟨_, hsys, vs, rv, o, es, ep, ho, hc, hd, _, hp, _⟩ :=
      (show ObjOk X.prog X.w H s.heap a (.dK kvs) from I.hok a _ hq)
    have hz1 : (dictText (PyData.shownKv ds)).length ≤ sizeLine := by simpa only [PyData.shown] using hz
    obtain ⟨as, cs, bs, r1, r2, hb, hk⟩ := DqKv.rk I ha es.toList vs rv hp (by simpa [PyData.showable] using hs)
      fun t ht => Nat.le_trans (dictText_mem_le ht) hz1
    have R : Reads s.heap (.ref a) (.dict ds) _ := .dict ho hc.1 hd r1 r2
    have nb : a ∉ bs := not_mem_of_deeper R (by simp only [PyData.depth]; omega) hb
    refine ⟨_, a :: bs, R, ReadAtMost.cons R (by simp only [PyData.depth]; omega) hb, ?_⟩
    simp only [PyData.depth, PyData.shown]
    exact ReprK.dict ho hc.1 hd hsys nb hk
theorem DqAll.rk (I : Inv X pins σ H s) : ∀ {vs : List V} {ds : List PyData}, DqAll X.K H vs ds → ∀ us, Vals vs us →
    PyData.showableAll ds = true → (∀ t ∈ PyData.shownAll ds, t.length ≤ sizeLine) →
    ∃ as bs, ReadsAll s.heap us ds as ∧ ReadAtMost s.heap (PyData.depthAll ds) bs ∧
      ReprAllK X.prog X.w bs s.heap (PyData.depthAll ds) us (PyData.shownAll ds)
  | _, _, .nil, us, r, _, _ => by
    cases r
    exact ⟨_, [], .nil, fun _ h => (nomatch h), by simp only [PyData.shownAll]; exact .nil⟩
  | _, _, .cons (d := d) (ds := ds) h hl, us, r, hs, hz => by
    cases r with
    | cons r1 r2 =>
      have h2 : d.showable = true ∧ PyData.showableAll ds = true := by simpa [PyData.showableAll] using hs
      obtain ⟨a1, b1, q1, m1, k1⟩ := Dq.rk I h _ r1 h2.1 (hz _ (by simp only [PyData.shownAll]; exact List.mem_cons_self))
      obtain ⟨a2, b2, q2, m2, k2⟩ := DqAll.rk I hl _ r2 h2.2
        fun t ht => hz t (by simp only [PyData.shownAll]; exact List.mem_cons_of_mem _ ht)
      refine ⟨_, b1 ++ b2, .cons q1 q2, by simp only [PyData.depthAll]; exact ram_app m1 m2, ?_⟩
      simp only [PyData.depthAll, PyData.shownAll]
      exact .cons ((k1.more fun b hb => List.mem_append_left _ hb).level_le (Nat.le_max_left _ _))
        (k2.more_le (fun b hb => List.mem_append_right _ hb) (Nat.le_max_right _ _))
theorem DqKv.rk (I : Inv X pins σ H s) : ∀ {vs : List (Key × V)} {ds : List (PyData × PyData)}, DqKv X.K H vs ds →
    ∀ (es : List DictEntry) (us : List (Key × Value)), KV vs us → Pairs (mixKind X.prog X.w) es us →
    PyData.showableKv ds = true → (∀ t ∈ PyData.shownKv ds, t.length ≤ sizeLine) →
    ∃ as cs bs, ReadsAll s.heap (es.map (·.key)) (ds.map (·.1)) as ∧ ReadsAll s.heap (es.map (·.val)) (ds.map (·.2)) cs ∧
      ReadAtMost s.heap (PyData.depthKv ds) bs ∧
      ReprEntriesK X.prog X.w bs s.heap (PyData.depthKv ds) es (PyData.shownKv ds)
  | _, _, .nil, es, us, r, p, _, _ => by
    cases r
    cases p
    exact ⟨_, _, [], .nil, .nil, fun _ h => (nomatch h), by simp only [PyData.shownKv]; exact .nil⟩
  | _, _, .cons (k := k) (d := d) (ds := ds) h hl, es, us, r, p, hs, hz => by
    cases r with
    | cons r1 r2 =>
      cases p with
      | cons p1 p2 p3 =>
        obtain ⟨e1, r1⟩ := r1
        have h2 : ((kd k).showable = true ∧ d.showable = true) ∧ PyData.showableKv ds = true := by
          simpa [PyData.showableKv] using hs
        have big : ((kd k).shown ++ ": " ++ d.shown).length ≤ sizeLine :=
          hz _ (by simp only [PyData.shownKv]; exact List.mem_cons_self)
        have big2 : (kd k).shown.length + 2 + d.shown.length ≤ sizeLine := by
          have e2 : ((kd k).shown ++ ": " ++ d.shown).length = (kd k).shown.length + 2 + d.shown.length := by
            rw [Str.length_append, Str.length_append]
            rfl
          omega
        rw [← p2] at r1
        rw [← e1] at p1
        dsimp only at p1
        obtain ⟨q0, k0⟩ := rk_key (X := X) (s := s) p1 h2.1.1 (by omega)
        obtain ⟨a1, b1, q1, m1, k1⟩ := Dq.rk I h _ r1 h2.1.2 (by omega)
        obtain ⟨a2, c2, b2, q2, q3, m2, k2⟩ := DqKv.rk I hl _ _ r2 p3 h2.2
          fun t ht => hz t (by simp only [PyData.shownKv]; exact List.mem_cons_of_mem _ ht)
        refine ⟨_, _, b1 ++ b2, .cons q0 q2, .cons q1 q3, ?_, ?_⟩
        · simp only [PyData.depthKv]
          intro c hc
          obtain ⟨d', xs, r', l⟩ := ram_app m1 m2 c hc
          exact ⟨d', xs, r', by omega⟩
        · simp only [PyData.depthKv, PyData.shownKv]
          exact .cons (k0 _ _) ((k1.more fun b hb => List.mem_append_left _ hb).level_le (by omega))
            (ek_more (fun b hb => List.mem_append_right _ hb) (Nat.le_max_right _ _) k2)
end
end
section
variable {X : Cx}
/-- repr(x), x a list, a tuple or a dict of data -/
def rShq (K : PySem.W.Frag) : List V → Hp → VK → Prop := fun xs H Q => ∃ (a : Addr) (d : PyData), xs = [.ref a] ∧
  Dq K H (.ref a) d ∧ d.showable = true ∧ d.depth ≤ 60 ∧ d.shown.length ≤ sizeLine ∧ Q (.str d.shown) H
theorem call_repq (hA : X.A.guards = some []) (hu : X.A.units + 64 < cLine) :
    CallR X (.builtin "repr") (rShq X.K) := by
  intro pins s σ H xs us Q I r h
  obtain ⟨a, d, rfl, hd, hs, hdp, hz, q⟩ := h
  obtain ⟨u, rfl, ru⟩ := vals1 r
  obtain rfl : u = Value.ref a := ru
  have fin : ∀ (t : Str), t = d.shown → ∀ (h' : Heap) (u : Tok) (tk : Nat), (∀ b o, s.heap.get? b = some o → h'.get? b = some o) →
      ∃ x tt, Value.str t u = .str x tt ∧ EP X pins σ Q (.str t u) { s with heap := h', toks := tk } := by
    intro t et h' u tk keep
    subst et
    exact ⟨_, _, rfl, .str _, H, I.kept keep, ⟨u, rfl⟩, q⟩
  cases hd with
  | lst hq ha =>
    rename_i xs ds
    obtain ⟨its, rv, ⟨o, n, ho, hc, _, hdd⟩, _⟩ := I.list hq
    have hz1 : (listText (PyData.shownAll ds)).length ≤ sizeLine := by simpa only [PyData.shown] using hz
    obtain ⟨as, bs, rd, hb, hk⟩ := DqAll.rk I ha its rv (by simpa [PyData.showable] using hs)
      fun t ht => Nat.le_trans (listText_mem_le ht) hz1
    have R : Reads s.heap (.ref a) (.list ds) _ := .list ho hc hdd rd
    have nb : a ∉ bs := not_mem_of_deeper R (by simp only [PyData.depth]; omega) hb
    refine call_repr_slot (by omega) ⟨o, ho, hc⟩ F.slot_list_repr.toG ?_
    simp only [PyData.depth] at hdp
    cases its with
    | nil =>
      cases rd
      exact call_list_repr_empty ⟨o, ho, hc⟩ ho hdd (fin "[]" (by simp [PyData.shown, PyData.shownAll, listText_nil]) _ _ _ fun _ _ e => e)
    | cons y l =>
      exact call_list_reprK ho hc hdd nb (by simpa using hk.length_eq) (fun i z e => hk.item i z (by simpa using e)) hA
        (fun b _ => Clear.nil b) (by show X.A.units + 1 + _ < cLine; omega) (fun _ _ e => e)
        (fun h' u tk keep => fin _ (by simp only [PyData.shown]) h' u tk keep) hz1
  | tup hq ha =>
    rename_i xs ds
    obtain ⟨its, rv, ⟨o, ho, hc, n, hdd⟩, _⟩ := I.tuple hq
    have hz1 : (tupleText (PyData.shownAll ds)).length ≤ sizeLine := by simpa only [PyData.shown] using hz
    obtain ⟨as, bs, rd, hb, hk⟩ := DqAll.rk I ha its rv (by simpa [PyData.showable] using hs)
      fun t ht => Nat.le_trans (tupleText_mem_le ht) hz1
    have R : Reads s.heap (.ref a) (.tuple ds) _ := .tuple ho hc hdd rd
    have nb : a ∉ bs := not_mem_of_deeper R (by simp only [PyData.depth]; omega) hb
    refine call_repr_slot (by omega) ⟨o, ho, hc⟩ F.slot_tuple_repr ?_
    simp only [PyData.depth] at hdp
    exact call_tuple_reprK ho hc hdd nb hk hA (fun b _ => Clear.nil b) (by show X.A.units + 1 + _ < cLine; omega)
      (fun _ _ e => e) (fun h' u tk keep => fin _ (by simp only [PyData.shown]) h' u tk keep) hz1
  | dic hq ha =>
    rename_i kvs ds
    obtain ⟨_, hsys, vs, rv, o, es, ep, ho, hc, hdd, _, hp, _⟩ :=
      (show ObjOk X.prog X.w H s.heap a (.dK kvs) from I.hok a _ hq)
    have hz1 : (dictText (PyData.shownKv ds)).length ≤ sizeLine := by simpa only [PyData.shown] using hz
    obtain ⟨as, cs, bs, r1, r2, hb, hk⟩ := DqKv.rk I ha es.toList vs rv hp (by simpa [PyData.showable] using hs)
      fun t ht => Nat.le_trans (dictText_mem_le ht) hz1
    have R : Reads s.heap (.ref a) (.dict ds) _ := .dict ho hc.1 hdd r1 r2
    have nb : a ∉ bs := not_mem_of_deeper R (by simp only [PyData.depth]; omega) hb
    refine call_repr_slot (by omega) ⟨o, ho, hc.1⟩ F.slot_dict_repr ?_
    simp only [PyData.depth] at hdp
    exact call_dict_reprK ho hc.1 hdd hsys nb hk hA (fun b _ => Clear.nil b) (by show X.A.units + 1 + _ < cLine; omega)
      (fun _ _ e => e) (fun h' u tk keep => fin _ (by simp only [PyData.shown]) h' u tk keep) hz1
end
end L2
namespace L2
open PySem PySem.Spec PyProof.Rows
/-- a list or a tuple -/
def SqS (K : PySem.W.Frag) (H : Hp) (a : Addr) (xs : List V) : Prop := SqL K H a xs ∨ SqT K H a xs
theorem SqS.len {K : PySem.W.Frag} {H : Hp} {a : Addr} {xs : List V} (h : SqS K H a xs) : LenV K (.ref a) H xs.length := by
  rcases h with h | h
  · exact .inl ⟨xs, h, rfl⟩
  · exact .inr ⟨xs, h, rfl⟩
end L2
namespace L2
open PySem PySem.Spec PyProof.Rows
/-- what a comprehension makes of its items: r by the turn and the item, none where a test leaves it out -/
def fm (r : Nat → V → Option V) : Nat → List V → List V
  | _, [] => []
  | i, x :: xs => (r i x).toList ++ fm r (i + 1) xs
theorem fm_len (r : Nat → V → Option V) : ∀ (xs : List V) (i : Nat), (fm r i xs).length ≤ xs.length
  | [], _ => Nat.le_refl _
  | x :: xs, i => by
    have := fm_len r xs (i + 1)
    unfold fm
    rw [List.length_append, List.length_cons]
    have : ((r i x).toList).length ≤ 1 := by cases r i x <;> simp
    omega
theorem fm_snoc (r : Nat → V → Option V) : ∀ (xs : List V) (x : V) (i : Nat),
    fm r i (xs ++ [x]) = fm r i xs ++ (r (i + xs.length) x).toList
  | [], x, i => by simp [fm]
  | y :: ys, x, i => by
    have e : i + 1 + ys.length = i + (y :: ys).length := by rw [List.length_cons]; omega
    show (r i y).toList ++ fm r (i + 1) (ys ++ [x]) = _
    rw [fm_snoc r ys x (i + 1), e, ← List.append_assoc]
    rfl
/-- one turn's parts -/
def Pure1 (r : Nat → V → Option V) (g : TG) (tt : TT) (te : TE) (vs : List Nat) (σ : St) (i : Nat) (x : V) (H : Hp) : Prop :=
  ∀ (Ky : VK) (Kn : Hp → Prop), (∀ y, r i x = some y → Ky y H) → (r i x = none → Kn H) →
    g x (wipe σ vs) H fun σ2 H2 => wipe σ2 vs = wipe σ vs ∧ tt σ2 H2 fun b H3 => if b = true then te σ2 H3 Ky else Kn H3
theorem pure_turn {r : Nat → V → Option V} {g : TG} {tt : TT} {te : TE} {vs : List Nat} {σ : St} {H1 : Hp} {D : Addr}
    {xs : List V} {i : Nat} {x : V} {Pv : Nat → Hp → Prop} (hx : xs[i]? = some x) (hz : xs.length ≤ sizeLine)
    (hP : ∀ j H, Pv j H ↔ H = upd H1 D (.lst (fm r 0 (xs.take j)))) {H : Hp} (hH : Pv i H)
    (h : Pure1 r g tt te vs σ i x H) :
    g x (wipe σ vs) H fun σ2 H2 => wipe σ2 vs = wipe σ vs ∧ tt σ2 H2 fun b H3 =>
      if b = true then te σ2 H3 fun y H4 => ∃ acc, H4 D = some (.lst acc) ∧ acc.length < sizeLine ∧
        Pv (i + 1) (upd H4 D (.lst (acc ++ [y]))) else Pv (i + 1) H3 := by
  have e := (hP i H).mp hH
  have hi : i < xs.length := (List.getElem?_eq_some_iff.mp hx).1
  have tk : xs.take (i + 1) = xs.take i ++ [x] := by
    rw [List.take_add_one, hx]
    rfl
  have l : (xs.take i).length = i := by rw [List.length_take]; omega
  have sn : fm r 0 (xs.take (i + 1)) = fm r 0 (xs.take i) ++ (r i x).toList := by
    rw [tk, fm_snoc, l, Nat.zero_add]
  refine h _ _ (fun y hy => ?_) fun hn => ?_
  · refine ⟨fm r 0 (xs.take i), by rw [e]; exact upd_same, ?_, (hP _ _).mpr ?_⟩
    · have := fm_len r (xs.take i) 0
      omega
    · rw [e, upd_upd, sn, hy]
      rfl
  · rw [hP, e, sn, hn]
    simp
section
variable {K : PySem.W.Frag} {a : Addr} {xs : List V} {r : Nat → V → Option V} {g : TG} {tt : TT} {te : TE}
  {vs : List Nat} {σ : St} {H : Hp} {Q : VK} {tl : TE}
theorem sqT_upd {H : Hp} {D : Addr} {u : HO} (h : SqT K H a xs) (hD : H D = none) : SqT K (upd H D u) a xs := by
  rcases h with (h | ⟨o, h⟩) | h
  · exact .inl (.inl (upd_new hD h))
  · exact .inl (.inr ⟨o, upd_new hD h⟩)
  · exact .inr h
theorem SqS.ty {K : PySem.W.Frag} {H : Hp} {a : Addr} {xs : List V} (h : SqS K H a xs) :
    ∃ T : String, (T = "list" ∨ T = "tuple") ∧ TyX K H (.ref a) (.type T) := by
  rcases h with ((h | ⟨o, h⟩) | ⟨o, _, _, h, c, _⟩) | ((h | ⟨o, h⟩) | ⟨o, _, _, h, c, _⟩)
  · exact ⟨_, .inl rfl, .base (.lst h)⟩
  · exact ⟨_, .inl rfl, .base (.frz h)⟩
  · exact ⟨_, .inl rfl, .kList h c⟩
  · exact ⟨_, .inr rfl, .base (.tup h)⟩
  · exact ⟨_, .inr rfl, .fTuple h⟩
  · exact ⟨_, .inr rfl, .kTuple h c⟩
theorem fm_map (f : V → V) (r : Nat → V → Option V) (h : ∀ i x, r i x = some (f x)) :
    ∀ (xs : List V) (i : Nat), fm r i xs = xs.map f
  | [], _ => rfl
  | x :: xs, i => by
    unfold fm
    rw [h, fm_map f r h xs]
    rfl
theorem yes_run {te : TE} {σ : St} {H : Hp} {Ky : VK} {Kn : Hp → Prop} (h : te σ H Ky) :
    tYes σ H fun b H3 => if b = true then te σ H3 Ky else Kn H3 := by
  show if true = true then te σ H Ky else Kn H
  rw [if_pos rfl]
  exact h
/-- a module's whole number -/
theorem pe_cst {X : Cx} {x : Str} {i : Int} {pos : Pos} (hg : Gl X x) (h : ∃ t, X.mg x = some (.int i t))
    (hd : (x == ("__debug__" : Str)) = false := by decide) : PE X (.Name x pos) (tC (.int i)) := by
  obtain ⟨t, e⟩ := h
  exact pe_glob hg e ⟨t, rfl⟩ hd
end
end L2
namespace L2
open PySem PySem.Spec PyProof.Rows
theorem cut_from (xs : List V) (b : Nat) : cutV xs (some (b : Int)) none = xs.drop b := by
  have q : cutV xs (some (b : Int)) none = (xs.drop (HT.sIx xs.length 0 (some (b : Int)))).take
      (HT.sIx xs.length xs.length none - HT.sIx xs.length 0 (some (b : Int))) := rfl
  rw [q, HT.sIx_nat, HT.sIx_none]
  by_cases h : b ≤ xs.length
  · rw [Nat.min_eq_left h, List.take_of_length_le]
    rw [List.length_drop]
    exact Nat.le_refl _
  · rw [Nat.min_eq_right (by omega), List.drop_of_length_le (by omega), List.drop_of_length_le (by omega)]
    simp
end L2
namespace L2
open PySem PySem.Spec PyProof.Rows
/-- what a def of the top keeps, whatever its guards are -/
def Kf (P : Program) (w : World) (K : PySem.W.Frag) (mg : Str → Option Value) (base : Heap) (k : Nat) (x : Str)
    (ps : List Str) (sp : Sp) : Prop :=
  ∃ f fd, mg x = some (.ref f) ∧ PySem.W.keepIn K (.ref f) = true ∧ Binds K fd ps [] ∧
    FnOk P w K mg base CX0 k f fd ps sp
section
variable {P : Program} {w : World} {K : PySem.W.Frag} {mg : Str → Option Value} {base : Heap}
theorem OwnD.okF {x : Str} {st : Stmt} {N ps : List Str} {k : Nat} {sp : Sp} (O : OwnD K mg x st ps)
    (S : FnScope N ps (defScope st)) (len : ∀ vs H Q E, sp vs H Q E → vs.length = ps.length)
    (hbody : ∀ (f : Addr) (cdv : Value) (A : Around) (outer : List Env) (s : Shared) (H : Hp) (vs : List V) (Q : VK)
      (E : XK), True →
      Room k (A.deeper (envOfC x (defScope st) s.heap.objs.size f cdv)) → sp vs H Q E →
      ∃ t, PSs (cxOf CX0 P w K mg base N x (defScope st) f cdv A outer s H E).nox (defBody st) t ∧
        t { nx := fun _ H' => Q .non H', rt := Q } (start N vs) H) :
    Kf P w K mg base (k + 1) x ps sp := by
  obtain ⟨f, fd, hm, F, b⟩ := O
  exact ⟨f, fd, hm, F.kp, b, F.ok S len fun cdv A outer s H vs Q E hr h => hbody f cdv A outer s H vs Q E trivial hr h⟩
end
section
variable {X : Cx} {k j : Nat} {ps : List Str} {sp : Sp} {x : Str} {p pos : Pos} {e : Expr} {es : List Expr} {t : TA}
theorem pe_kf (F : Kf X.prog X.w X.K X.mg X.base k x ps sp) {G : Prop} (hA : G) (hr : Room j X.A)
    (hg : Gl X x) (ha : PA X (e :: es) t) (hj : k ≤ j := by decide)
    (hdb : (x == ("__debug__" : Str)) = false := by decide)
    (he : starEach (e :: es) X.env = (false, eval e X.env) :: starEach es X.env := by rfl)
    (hpl : (backTo pos (starEach es X.env)).any (·.1) = false := by rfl)
    (hx : Passes CX0 X E0 := by exact pass0) :
    PE X (.Call (.Name x p) (e :: es) [] pos) (tCall sp [] E0 t) := by
  obtain ⟨f, fd, hm, hk, hb, G⟩ := F
  exact pe_call G (hr.mono hj) hg hm hk hb .nil hx ha hdb he hpl
end
end L2
namespace L2
open PySem PySem.Spec PyProof.Rows
end L2
namespace L2
open PySem PySem.Spec PyProof.Rows
/-- a reading may be made weaker -/
theorem PE.weaker {X : Cx} {e : Expr} {t t' : TE} (h : PE X e t) (imp : ∀ σ H Q, t' σ H Q → t σ H Q) : PE X e t' :=
  ⟨fun pins s σ H Q I z => h.run pins s σ H Q I (imp σ H Q z)⟩
/-- a def of a class, its own text -/
abbrev MD (K : PySem.W.Frag) (x qual : Str) (st : Stmt) (dvs : List V) (f : Addr) (fd : FuncData) : Prop :=
  FunD K x qual (defArgs st) (defBody st) (defScope st) dvs [] f fd
section
variable {P : Program} {w : World} {K : PySem.W.Frag} {mg : Str → Option Value} {base : Heap}
theorem FunD.okM {x qual : Str} {st : Stmt} {dvs : List V} {f : Addr} {fd : FuncData} {N ps : List Str} {k : Nat} {sp : Sp}
    (F : MD K x qual st dvs f fd)
    (S : FnScope N ps (defScope st)) (len : ∀ vs H Q E, sp vs H Q E → vs.length = ps.length)
    (hbody : ∀ (f : Addr) (cdv : Value) (A : Around) (outer : List Env) (s : Shared) (H : Hp) (vs : List V) (Q : VK)
      (E : XK), True →
      Room k (A.deeper (envOfC qual (defScope st) s.heap.objs.size f cdv)) → sp vs H Q E →
      ∃ t, PSs (cxOf CX0 P w K mg base N qual (defScope st) f cdv A outer s H E).nox (defBody st) t ∧
        t { nx := fun _ H' => Q .non H', rt := Q } (start N vs) H) :
    FnOk P w K mg base CX0 (k + 1) f fd ps sp :=
  F.ok S len fun cdv A outer s H vs Q E hr h =>
    have ⟨t, ht, q⟩ := hbody f cdv A outer s H vs Q E trivial hr h
    ⟨t, ht.nox, q⟩
end
end L2
namespace PySem.W
open Lean Elab Tactic Meta PySem PySem.Calls PyProof.Rows
end PySem.W
namespace L2
open PySem PySem.Spec PyProof.Rows
end L2
namespace L2
open PySem PySem.Spec PyProof.Rows
/-- a module's text -/
theorem pe_cstS {X : Cx} {x : Str} {z : Str} {pos : Pos} (hg : Gl X x) (h : ∃ t, X.mg x = some (.str z t))
    (hd : (x == ("__debug__" : Str)) = false := by decide) : PE X (.Name x pos) (tC (.str z)) := by
  obtain ⟨t, e⟩ := h
  exact pe_glob hg e ⟨t, rfl⟩ hd
section
variable {r : Nat → V → Option V} {g : TG} {tt : TT} {te : TE} {vs : List Nat} {σ : St} {H : Hp} {Q : VK}
theorem lc_pureW {J : It} {n : Nat} {G : Hp → Prop} {Y : Nat → Hp → V → Hp → Prop} (w : Walk J n G Y) {xs : List V} {D : Addr} {Qd : Hp → Prop} (hn : xs.length = n)
    (hY : ∀ i H x H', Y i H x H' → H' = H ∧ xs[i]? = some x) (hG : ∀ H', Same H H' → G H') (hz : xs.length ≤ sizeLine) (hD : H D = none)
    (ht : ∀ i x H', xs[i]? = some x → Same H H' → Pure1 r g tt te vs σ i x H') (hQ : Qd (upd H D (.lst (fm r 0 xs)))) :
    ∃ W : Nat → Nat → Hp → Prop, (∃ m, W 0 m (upd H D (.lst []))) ∧ ∀ i m H, W i m H →
      (J.stop i H ∧ Qd H) ∨ (J.go i H ∧ ∃ Nx : Hp → Prop, (∀ H', Nx H' → ∃ m', m' < m ∧ W (i + 1) m' H') ∧ ∀ x H', J.yld i H x H' → g x (wipe σ vs) H' fun σ2 H2 => wipe σ2 vs = wipe σ vs ∧ tt σ2 H2 fun b H3 =>
        if b = true then te σ2 H3 fun y H4 => ∃ acc, H4 D = some (.lst acc) ∧ acc.length < sizeLine ∧ Nx (upd H4 D (.lst (acc ++ [y]))) else Nx H3) := by
  refine lc_it w (fun j H' => H' = upd H D (.lst (fm r 0 (xs.take j)))) rfl (fun i H' _ e => hG _ (by rw [e]; exact Same.new hD)) (fun i x H1 H2 _ e y => ?_) fun H' e => ?_
  · obtain ⟨e2, hx⟩ := hY _ _ _ _ y
    subst e2
    exact pure_turn hx hz (fun _ _ => Iff.rfl) e (ht i x H2 hx (by rw [e]; exact Same.new hD))
  · rw [e, List.take_of_length_le (by omega)]
    exact hQ
/-- the signs of a text -/
def signs (z : Str) : List V := z.cps.toList.map fun c => V.str ⟨#[c]⟩
theorem signs_len (z : Str) : (signs z).length = z.cps.size := by
  unfold signs
  rw [List.length_map, Array.length_toList]
theorem signs_at {z : Str} {i : Nat} {x : V} : (∃ c, z.cps[i]? = some c ∧ x = .str ⟨#[c]⟩) ↔ (signs z)[i]? = some x := by
  unfold signs
  rw [List.getElem?_map, Array.getElem?_toList]
  cases z.cps[i]? with
  | none => simp
  | some c => simp [eq_comm]
/-- [.. for x in a text] -/
theorem tlc_str {z : Str} {tl : TE} (hz : z.cps.size ≤ sizeLine) (htl : ∀ R : VK, R (.str z) H → tl σ H R)
    (ht : ∀ i x H', (signs z)[i]? = some x → Same H H' → Pure1 r g tt te vs σ i x H')
    (hQ : ∀ D, H D = none → Q (.ref D) (upd H D (.lst (fm r 0 (signs z))))) : tLc (iStr tl) g tt te vs σ H Q := by
  refine htl _ ⟨z, rfl, fun D hD => ?_⟩
  exact lc_pureW (walk_str (z := z)) (signs_len z) (fun i H x H' ⟨e, y⟩ => ⟨e, signs_at.mp y⟩) (fun _ _ => True.intro) (by rw [signs_len]; exact hz) hD ht (hQ D hD)
/-- [.. for x in a dict], the dict locked -/
theorem tlc_keys {d : Addr} {o : Obj} {kvs : List (Key × V)} {td : TE} (hd : H d = some (.frz o (.dK kvs))) (hz : kvs.length ≤ sizeLine) (htl : ∀ R : VK, R (.ref d) H → td σ H R)
    (ht : ∀ i x H', (kvs.map fun kv => kV kv.1)[i]? = some x → Same H H' → Pure1 r g tt te vs σ i x H')
    (hQ : ∀ D, H D = none → Q (.ref D) (upd H D (.lst (fm r 0 (kvs.map fun kv => kV kv.1))))) : tLc (iKeys td) g tt te vs σ H Q := by
  refine htl _ ⟨d, o, rfl, .inl ⟨kvs, hd, fun D hD => ?_⟩⟩
  exact lc_pureW (walk_keys (d := d) (o := o) (kvs := kvs)) (by rw [List.length_map]) (fun i H x H' ⟨e, k, v, y, ex⟩ => ⟨e, by rw [List.getElem?_map, y, ex]; rfl⟩) (fun H' s => s _ _ hd) (by rw [List.length_map]; exact hz) hD ht (hQ D hD)
end
end L2
namespace L2
open PySem PySem.Spec PyProof.Rows
/-- one entry of such a comprehension is put in -/
theorem put_tupKey {X : Cx} {pn : List (Addr × Obj)} {σ : St} {H : Hp} {s : Shared} {E : Value → Shared → Prop}
    {D b : Addr} {kvs : List (List Key × V)} {k : List Key} {v : V} {r : Value} {Q : Unit → Shared → Prop}
    (hu : X.A.units + 2 < cLine) (J : Inv X pn σ H s) (eD : H D = some (.dT kvs)) (small : kvs.length < sizeLine)
    (eb : H b = some (.tup (k.map kV))) (rv : RelV v r)
    (h : ∀ s', Inv X pn σ (upd H D (.dT (putK kvs k v))) s' → Q () s') :
    wpAny (model X.prog X.w) X.A (dictSet D (.ref b) r) Q E s := by
  obtain ⟨zl, notMods, xs, kt, dd⟩ := dt_of J.hok eD
  have hx : xs.length ≤ sizeLine := (Paired.length kt) ▸ zl
  have hp : (putK kvs k v).length ≤ sizeLine := Nat.le_trans (length_putK kvs k v) small
  refine wpAny_dictSet_heap (hsz := hx) (show X.A.units < cLine from Nat.lt_of_le_of_lt (Nat.le_add_right _ _) hu) (key_of J.hok eb) dd fun h' new only => h _ ?_
  obtain ⟨o, ents, ep, at_, c2, c3, c4, _, c5⟩ := new
  refine d_write J (by rw [eD]; trivial) only ⟨o, at_⟩ ⟨hp, notMods, _, (kt.put k eb rv).keeps fun c ys ec => ?_, o, ents, ep, at_, c2, c3, c4, c5⟩
  exact upd_oth (fun z => by rw [z, eD] at ec; cases ec) ec
section
variable {X : Cx}
/-- {k: v for target in iter if ..}, keys tuples of ints and texts: D the new dict -/
def tDcT (wi : TI) (g : TG) (tt : TT) (tk tv : TE) (vs : List Nat) : TE := fun σ H Q =>
  wi σ H fun J H1 => ∀ D, H1 D = none → ∃ W : Nat → Nat → Hp → Prop, (∃ m, W 0 m (upd H1 D (.dT []))) ∧
    ∀ i m H, W i m H → (J.stop i H ∧ Q (.ref D) H) ∨
      (J.go i H ∧ ∃ Nx : Hp → Prop, (∀ H', Nx H' → ∃ m', m' < m ∧ W (i + 1) m' H') ∧
        ∀ x H', J.yld i H x H' → g x (wipe σ vs) H' fun σ2 H2 => wipe σ2 vs = wipe σ vs ∧ tt σ2 H2 fun ok H3 =>
          if ok = true then tk σ2 H3 fun y H4 => tv σ2 H4 fun z H5 => ∃ kvs k b, y = .ref b ∧ H5 b = some (.tup (k.map kV)) ∧
            H5 D = some (.dT kvs) ∧ kvs.length < sizeLine ∧ Nx (upd H5 D (.dT (putK kvs k z))) else Nx H3)
theorem has_free {scope : Scope} {own : List (Str × Nat)} {pn : List (Addr × Obj)} {σ : St} {H : Hp} {s : Shared}
    (J : Inv X pn σ H s) (ok : BlkOk X.N X.env.scope scope own) : ∀ y ∈ scope.names, y.2 = .free → ∃ c, X.env.cells.lookup y.1 = some c :=
  fun y hy e => (ok.free y hy e).elim (fun k => J.ok.has _ (.inl k)) fun k => J.ok.has _ (.inr k)
theorem pe_dcT {kx vx tg iter : Expr} {ifs : List Expr} {scope : Scope} {own : List (Str × Nat)} {pos : Pos} {wi : TI} {g : TG} {tt : TT}
    {tk tv : TE} (hu : X.A.units + 2 < cLine) (hc : X.calm = true) (hN : X.N.Nodup) (hi : PI X tg iter wi) (ok : BlkOk X.N X.env.scope scope own)
    (hg : ∀ (s : Shared) (H : Hp) (C : Addr) (cl : List (Str × Addr)) (fp : List Addr),
      PG (X.blk s H scope (compEnvC scope cl C X.env) fp) tg g)
    (ht : ∀ (s : Shared) (H : Hp) (C : Addr) (cl : List (Str × Addr)) (fp : List Addr),
      PTs (X.blk s H scope (compEnvC scope cl C X.env) fp) ifs tt)
    (hk : ∀ (s : Shared) (H : Hp) (C : Addr) (cl : List (Str × Addr)) (fp : List Addr),
      PE (X.blk s H scope (compEnvC scope cl C X.env) fp) kx tk)
    (he : ∀ (s : Shared) (H : Hp) (C : Addr) (cl : List (Str × Addr)) (fp : List Addr),
      PE (X.blk s H scope (compEnvC scope cl C X.env) fp) vx tv)
    (hs : ∀ x, foldedSetIterable iter X.env x = pure x := by intro _; rfl) :
    PE X (.DictComp kx vx [⟨tg, iter, ifs, 0⟩] scope pos) (tDcT wi g tt tk tv (own.map (·.2))) := by
  refine ⟨fun pn sA σ HA Q J0 want => ?_⟩
  rw [arm_eval_DictComp]
  refine wpAny_comprehension_free (use := none) rfl hs (closure_ok (has_free J0 ok)) ok.kind (fun y hy e => by rw [ok.uniq y hy, e])
    (thn (hi.run pn sA σ HA _ J0 want) fun xv sB hx => thn hx fun itv sC hC => ?_)
  obtain ⟨it, fp, tn, J, HC, e, JC, T, stC, fC, q⟩ := hC
  subst e
  refine wpAny_newObj_type (newEnv_comp ?_)
  generalize eqD : sC.heap.objs.size = D
  have freeD : HC D = none := JC.hok.fresh (Nat.le_of_eq eqD)
  obtain ⟨W, ⟨m0, w0⟩, turn⟩ := q D freeD
  let emp : Obj := { cls := .type "dict", data := .dict #[] }
  generalize eqs : ({ sC with heap := sC.heap.push emp } : Shared) = sD
  have hpD : sD.heap = sC.heap.push emp := by rw [← eqs]
  have JD : Inv X pn σ (upd HC D (.dT [])) sD := by
    rw [← eqs]
    refine JC.laid (t' := sC.toks) (fun b o eb => Heap.get?_push_of_some _ eb) (Nat.le_of_eq eqD) ?_
    rw [← eqD]
    exact dt_empty sC.heap JC.big
  have below : ∀ b ∈ fp, b < sC.heap.objs.size := fun b hb =>
    let ⟨o, eb, _⟩ := T.obj _ _ stC b hb
    Heap.lt_size eb
  have fD : ∀ b ∈ fp, FpOk X pn (upd HC D (.dT [])) b ∧ b < sD.heap.objs.size := fun b hb => by
    have lt := below b hb
    refine ⟨⟨?_, (fC b hb).2⟩, by rw [hpD, Heap.size_push]; exact Nat.lt_succ_of_lt lt⟩
    rw [upd_ne (by rw [← eqD]; exact Nat.ne_of_lt lt)]
    exact (fC b hb).1
  have stD : tn 0 sD.heap := T.keep _ _ _ stC fun b _ o eb => by
    rw [hpD]
    exact Heap.get?_push_of_some _ eb
  have JE := block_start JD ok hN fD
  let cl := cellsFrom (sD.heap.objs.size + 1) scope.names (cloFrom X.env.cells scope.names [])
  have pg := hg sD (upd HC D (.dT [])) sD.heap.objs.size cl fp
  have pt := ht sD (upd HC D (.dT [])) sD.heap.objs.size cl fp
  have pk := hk sD (upd HC D (.dT [])) sD.heap.objs.size cl fp
  have pv := he sD (upd HC D (.dT [])) sD.heap.objs.size cl fp
  show codeAny _ _ (.compStart (.DictComp kx vx [⟨tg, iter, ifs, 0⟩] scope pos) 0 (.ref it) (.ref D) (compEnvC scope cl sD.heap.objs.size X.env))
    (compPost (model X.prog X.w) X.A X.xe none (EP X pn σ Q) (.ref D) sD.heap.objs.size)
    { sD with heap := pushCells (sD.heap.push emp) scope.names }
  have noFp : ∀ b ∈ fp, (upd HC D (.dT [])) b = none := fun b hb => (fD b hb).1.1
  generalize eqce : compEnvC scope cl sD.heap.objs.size X.env = ce at JE pg pt pk pv ⊢
  have ceL : ce.locals = sD.heap.objs.size := by subst eqce; rfl
  generalize upd HC D (.dT []) = HD at JD JE pg pt pk pv w0 noFp fD
  generalize eqE : ({ sD with heap := pushCells (sD.heap.push emp) scope.names } : Shared) = sE at JE ⊢
  have stE : tn 0 sE.heap := T.keep _ _ _ stD fun b _ o eb => by
    rw [← eqE]
    exact pushCells_keeps _ _ _ _ (Heap.get?_push_of_some _ eb)
  have still : ∀ {σ' : St} {H' : Hp} {s' : Shared}, Inv (X.blk sD HD scope ce fp) [] σ' H' s' → (∀ b ∈ fp, H' b = none) →
      ∀ b ∈ fp, FpOk (X.blk sD HD scope ce fp) [] H' b := fun {σ' H' s'} J' none_ b hb =>
    ⟨none_ b hb, (J'.ok.exf b hb).1, J'.ok.exfs b hb, .inl hb, fun x c ec => (J'.ok.exf b hb).2 x c ec, fun p hp => by simp at hp⟩
  have whole : codeAny (model X.prog X.w) X.A (.compLoop (.DictComp kx vx [⟨tg, iter, ifs, 0⟩] scope pos) 0 (.ref it) (.ref D) ce)
      (compPost (model X.prog X.w) X.A X.xe none (EP X pn σ Q) (.ref D) sD.heap.objs.size) sE := by
    refine compLoop_anyD (fun n s' => ∃ i H', Inv (X.blk sD HD scope ce fp) [] (wipe σ (own.map (·.2))) H' s' ∧ tn i s'.heap ∧
      (∀ b ∈ fp, H' b = none) ∧ W i n H') ?_ m0 ⟨0, HD, JE, stE, noFp, w0⟩
    rintro n s5 ⟨i, H5, J5, st5, n5, w5⟩
    rcases turn i n H5 w5 with ⟨stop, done⟩ | ⟨go, Nx, less, step⟩
    · have td := T.done (X.blk sD HD scope ce fp) rfl rfl rfl hc i [] s5 _ H5 (fun _ _ => False) J5 (still J5 n5) st5 stop
      refine thnF td fun r s6 ⟨none_, J6⟩ => ?_
      subst none_
      have J7 : Inv X pn σ H5 s6 := JD.call' (ch := fp) J6.os J6.base J6.hok J6.bare fun b hb =>
        ⟨(fD b hb).1.2.2.2.1, (fD b hb).1.2.1, (fD b hb).1.2.2.2.2.1, (fD b hb).1.2.2.2.2.2⟩
      have freeC : H5 sD.heap.objs.size = none := ceL ▸ (show H5 ce.locals = none from J6.free)
      obtain ⟨mm, ns, _⟩ := J6.loc
      have ns' : s6.heap.Ns sD.heap.objs.size mm := ceL ▸ (show s6.heap.Ns ce.locals mm from ns)
      obtain ⟨f0, f1, f2, f3, f4, f5⟩ := JD.fpOk (H' := H5) (Nat.le_refl _) freeC
      exact ⟨mm, ns', fun h'' sb => ⟨.ref D, H5, J7.turned (t' := s6.toks) (fun b o hb eb => (sb.2 b hb).trans eb) f0 f1 f3 f4 f5, rfl, done⟩⟩
    · have ti := T.item (X.blk sD HD scope ce fp) rfl rfl rfl hc i [] s5 _ H5 (fun _ _ => False) J5 (still J5 n5) st5 go
      refine thnF ti fun r s6 ⟨u, some_, h6⟩ => ?_
      subst some_
      refine thnF h6 fun _ s7 ⟨x, H7, J7, r7, y7, st7, n7⟩ => ?_
      have J7' := J7.pinned (still J7 n7) (T.obj _ _ st7)
      refine thnF (pg.run _ s7 _ H7 x u _ J7' r7 (step x H7 y7)) fun _ s8 ⟨σ8, H8, J8, same8, q8⟩ => ?_
      refine thnF (pt.run _ s8 σ8 H8 _ J8 q8) fun yes s9 ⟨H9, J9, q9⟩ => ?_
      have after : ∀ {s' : Shared} {H' : Hp}, Inv (X.blk sD HD scope ce fp) ([] ++ pinsAt fp s7.heap) σ8 H' s' → Nx H' →
          ∃ m, m < n ∧ ∃ i H', Inv (X.blk sD HD scope ce fp) [] (wipe σ (own.map (·.2))) H' s' ∧ tn i s'.heap ∧
            (∀ b ∈ fp, H' b = none) ∧ W i m H' := fun {s' H'} J' nx => by
        obtain ⟨m', lt, w'⟩ := less H' nx
        have pinned_ : ∀ b ∈ fp, ∀ o, s7.heap.get? b = some o → s'.heap.get? b = some o ∧ H' b = none := fun b hb o eb =>
          let z := J'.pin (b, o) (List.mem_append_right _ (List.mem_append_right _ (mem_pinsAt hb eb)))
          ⟨z.1, z.2.1⟩
        refine ⟨m', lt, i + 1, H', (J'.unpinned (pins := [])).weak (by rw [← same8, wipe_length]) (fun j v ev => ?_),
          T.keep _ _ _ st7 fun b hb o eb => (pinned_ b hb o eb).1, fun b hb => ?_, w'⟩
        · rw [← same8] at ev
          exact (wipe_some ev).1
        · obtain ⟨o, eb, _⟩ := T.obj _ _ st7 b hb
          exact (pinned_ b hb o eb).2
      cases yes with
      | false => exact after J9 (by simpa using q9)
      | true =>
        simp only [if_true] at q9 ⊢
        refine thnF (pk.run _ s9 σ8 H9 _ J9 q9) fun kv s10 ⟨yk, H10, J10, r10, q10⟩ => ?_
        refine thnF (pv.run _ s10 σ8 H10 _ J10 q10) fun vv s11 ⟨yv, H11, J11, r11, kvs, k, b, ek, hb, hD, small, nx⟩ => ?_
        subst ek
        cases (show kv = Value.ref b from r10)
        exact put_tupKey (X := X.blk sD HD scope ce fp) hu J11 hD small hb r11 fun s12 J12 => after J12 nx
  exact codeAny_compStart_dict whole (T.self X.A 0 _ _ _ stE whole)
end
section
variable {J : It} {n : Nat} {G : Hp → Prop} {Y : Nat → Hp → V → Hp → Prop}
/-- a dict comprehension with tuple keys over what is walked: Pv by the turn and the heap -/
theorem dcT_it (w : Walk J n G Y) {g : TG} {tt : TT} {tk tv : TE} {vs : List Nat} {σ : St} {H1 : Hp} {D : Addr} {Qd : Hp → Prop} (Pv : Nat → Hp → Prop)
    (start : Pv 0 (upd H1 D (.dT []))) (keep : ∀ i H, i ≤ n → Pv i H → G H)
    (step : ∀ i x H H', i < n → Pv i H → Y i H x H' → g x (wipe σ vs) H' fun σ2 H2 => wipe σ2 vs = wipe σ vs ∧ tt σ2 H2 fun ok H3 =>
      if ok = true then tk σ2 H3 fun y H4 => tv σ2 H4 fun z H5 => ∃ kvs k b, y = .ref b ∧ H5 b = some (.tup (k.map kV)) ∧
        H5 D = some (.dT kvs) ∧ kvs.length < sizeLine ∧ Pv (i + 1) (upd H5 D (.dT (putK kvs k z))) else Pv (i + 1) H3)
    (fin : ∀ H, Pv n H → Qd H) :
    ∃ W : Nat → Nat → Hp → Prop, (∃ m, W 0 m (upd H1 D (.dT []))) ∧ ∀ i m H, W i m H → (J.stop i H ∧ Qd H) ∨
      (J.go i H ∧ ∃ Nx : Hp → Prop, (∀ H', Nx H' → ∃ m', m' < m ∧ W (i + 1) m' H') ∧
        ∀ x H', J.yld i H x H' → g x (wipe σ vs) H' fun σ2 H2 => wipe σ2 vs = wipe σ vs ∧ tt σ2 H2 fun ok H3 =>
          if ok = true then tk σ2 H3 fun y H4 => tv σ2 H4 fun z H5 => ∃ kvs k b, y = .ref b ∧ H5 b = some (.tup (k.map kV)) ∧
            H5 D = some (.dT kvs) ∧ kvs.length < sizeLine ∧ Nx (upd H5 D (.dT (putK kvs k z))) else Nx H3) := by
  refine ⟨fun i m H => m + i = n ∧ Pv i H, ⟨n, rfl, start⟩, ?_⟩
  rintro i m H ⟨le, p⟩
  have here := keep i H (by omega) p
  rcases Nat.lt_or_ge i n with lt | ge
  · exact .inr ⟨w.goes i H lt here, Pv (i + 1), fun H' p' => ⟨n - (i + 1), by omega, by omega, p'⟩, fun x H' y => step i x H H' lt p (w.yields i H x H' lt here y)⟩
  · obtain rfl : i = n := by omega
    exact .inl ⟨w.stops H here, fin H p⟩
/-- the same, keys texts or ints -/
theorem dcK_it (w : Walk J n G Y) {g : TG} {tt : TT} {tk tv : TE} {vs : List Nat} {σ : St} {H1 : Hp} {D : Addr} {Qd : Hp → Prop} (Pv : Nat → Hp → Prop)
    (start : Pv 0 (upd H1 D (.dK []))) (keep : ∀ i H, i ≤ n → Pv i H → G H)
    (step : ∀ i x H H', i < n → Pv i H → Y i H x H' → g x (wipe σ vs) H' fun σ2 H2 => wipe σ2 vs = wipe σ vs ∧ tt σ2 H2 fun ok H3 =>
      if ok = true then tk σ2 H3 fun y H4 => tv σ2 H4 fun z H5 => ∃ kvs k, y = kV k ∧ H5 D = some (.dK kvs) ∧ kvs.length < sizeLine ∧
        Pv (i + 1) (upd H5 D (.dK (putK kvs k z))) else Pv (i + 1) H3)
    (fin : ∀ H, Pv n H → Qd H) :
    ∃ W : Nat → Nat → Hp → Prop, (∃ m, W 0 m (upd H1 D (.dK []))) ∧ ∀ i m H, W i m H → (J.stop i H ∧ Qd H) ∨
      (J.go i H ∧ ∃ Nx : Hp → Prop, (∀ H', Nx H' → ∃ m', m' < m ∧ W (i + 1) m' H') ∧
        ∀ x H', J.yld i H x H' → g x (wipe σ vs) H' fun σ2 H2 => wipe σ2 vs = wipe σ vs ∧ tt σ2 H2 fun ok H3 =>
          if ok = true then tk σ2 H3 fun y H4 => tv σ2 H4 fun z H5 => ∃ kvs k, y = kV k ∧ H5 D = some (.dK kvs) ∧ kvs.length < sizeLine ∧
            Nx (upd H5 D (.dK (putK kvs k z))) else Nx H3) := by
  refine ⟨fun i m H => m + i = n ∧ Pv i H, ⟨n, rfl, start⟩, ?_⟩
  rintro i m H ⟨le, p⟩
  have here := keep i H (by omega) p
  rcases Nat.lt_or_ge i n with lt | ge
  · exact .inr ⟨w.goes i H lt here, Pv (i + 1), fun H' p' => ⟨n - (i + 1), by omega, by omega, p'⟩, fun x H' y => step i x H H' lt p (w.yields i H x H' lt here y)⟩
  · obtain rfl : i = n := by omega
    exact .inl ⟨w.stops H here, fin H p⟩
end
section
variable {X : Cx}
/-- y = {k: v for ..}, y a local name that the block has none of -/
theorem ps_setDc {i : Nat} {y : Str} {py : Pos} {kx vx tg iter : Expr} {ifs : List Expr} {scope : Scope} {own : List (Str × Nat)} {pos spos : Pos}
    {wi : TI} {g : TG} {tt : TT} {tk tv : TE} (hc : X.calm = true) (hN : X.N.Nodup) (hy : X.N[i]? = some y)
    (hyl : X.env.scope.names.lookup y = some .local)
    (swap : swapsWith (.DictComp kx vx [⟨tg, iter, ifs, 0⟩] scope pos) (some (.Name y py)) spos.line X.env = pure true)
    (hi : PI X tg iter wi) (ok : BlkOk X.N X.env.scope scope own)
    (hg : ∀ (s : Shared) (H : Hp) (C : Addr) (cl : List (Str × Addr)) (fp : List Addr),
      PG (X.blk s H scope (compEnvC scope cl C X.env) fp) tg g)
    (ht : ∀ (s : Shared) (H : Hp) (C : Addr) (cl : List (Str × Addr)) (fp : List Addr),
      PTs (X.blk s H scope (compEnvC scope cl C X.env) fp) ifs tt)
    (hk : ∀ (s : Shared) (H : Hp) (C : Addr) (cl : List (Str × Addr)) (fp : List Addr),
      PE (X.blk s H scope (compEnvC scope cl C X.env) fp) kx tk)
    (he : ∀ (s : Shared) (H : Hp) (C : Addr) (cl : List (Str × Addr)) (fp : List Addr),
      PE (X.blk s H scope (compEnvC scope cl C X.env) fp) vx tv)
    (hs : ∀ x, foldedSetIterable iter X.env x = pure x := by intro _; rfl) :
    PS X (.Assign [.Name y py] (.DictComp kx vx [⟨tg, iter, ifs, 0⟩] scope pos) spos) (tAsg (tDc wi g tt tk tv (own.map (·.2))) (gName i)) := by
  refine ⟨fun pn sA σ HA D J want => ?_⟩
  rw [exec_Assign_Name_used _ _ _ _ swap]
  have want' : tDc wi g tt tk tv (own.map (·.2)) σ HA (fun x H1 => gName i x σ H1 D.nx) := want
  refine wpAny_bind (wpAny_standAt (wpAny_bind (wpAny_bind (thn (dc_core (Qf := fun _ s' => SP X pn D .next s') hc hN J hi ok hg ht hk he hs want'
    fun L C s' m H' J' q ns f => ?_) fun _ s' hq => wpAny_pure (wpAny_pure hq)))))
  refine wpAny_assign_Name (store_ok2 (v := V.ref L) J' hN hy (.inl hyl) rfl (fun s2 J2 ⟨a, sb, at_⟩ => ?_) (.inr hyl))
  obtain ⟨f0, f1, f2, f3, f4, f5⟩ := f
  have apart : C ≠ a := at_.elim (fun z => by rw [z]; exact f1) fun z e => f4 y a z e.symm
  exact ⟨m, ns.sameBut sb apart, fun h3 sb3 => ⟨_, H', J2.turned (t' := s2.toks) (fun b o hb e => (sb3.2 b hb).trans e) f0 f1 f3 f4 f5, q⟩⟩
theorem swap_dict {kx vx : Expr} {gs : List Comprehension} {scope : Scope} {pos py : Pos} {y : Str} {l : Nat} {env : Env} (hk : env.scope.kind = .function)
    (hy : env.scope.names.lookup y = some .local) (same : (py.line == pos.line) = true)
    (no : (scope.names.any fun (n, k) => n == y && (k == .local || k == .cell)) = false) : swapsWith (.DictComp kx vx gs scope pos) (some (.Name y py)) l env = pure true := by
  have k1 : env.kindOf y = some .local := hy
  have k2 : env.blockKind = .function := by
    unfold Env.blockKind
    rw [hk]
    rfl
  unfold swapsWith
  simp only [k1, k2, no, Expr.pos, same]
  rfl
end
theorem hu2_of {A : Around} {k : Nat} (hr : Room k A) : A.units + 2 < cLine := by
  have := hr.un
  omega
/-- what making an object keeps, no defaults -/
def KmkN (P : Program) (w : World) (K : PySem.W.Frag) (mg : Str → Option Value) (base : Heap) (C : Addr) (k : Nat) (ps : List Str) (sp : Sp) : Prop :=
  ∃ f fd, Mk K C f ∧ Binds K fd ps [] ∧ FnOk P w K mg base CX0 k f fd ps sp
theorem pe_kmkN {X : Cx} {k j : Nat} {ps : List Str} {sp : Sp} {x : Str} {p pos : Pos} {e : Expr} {es : List Expr} {t : TA} {C : Addr}
    (F : KmkN X.prog X.w X.K X.mg X.base C k ps sp) (hr : Room j X.A) (hg : Gl X x) (hm : X.mg x = some (.ref C))
    (ha : PA X (e :: es) t) (hj : k + 1 ≤ j := by decide) (hdb : (x == ("__debug__" : Str)) = false := by decide)
    (he : starEach (e :: es) X.env = (false, eval e X.env) :: starEach es X.env := by rfl)
    (hpl : (backTo pos (starEach es X.env)).any (·.1) = false := by rfl) (hx : Passes CX0 X E0 := by exact pass0) :
    PE X (.Call (.Name x p) (e :: es) [] pos) (tMake C sp [] E0 t) := by
  obtain ⟨f, fd, M, b, F⟩ := F
  exact pe_make M F (hr.mono hj) hg hm b .nil hx ha hdb he hpl
end L2
namespace L2
open PySem PySem.Spec PyProof.Rows
/-- each sign of a text in a new pair with its place -/
def IteS (z : Str) : It :=
  ⟨fun i _ => i < z.cps.size, fun i H v H' => ∃ T c, v = .ref T ∧ H T = none ∧ H' = upd H T (.tup [.int (i : Nat), .str ⟨#[c]⟩]) ∧ z.cps[i]? = some c,
    fun i _ => z.cps.size ≤ i⟩
theorem draw_signs {P : Program} {w : World} {A : Around} (hh : A.handled = none) (it : Addr) (z : Str) (t : Tok) :
    Draws P w A it [it] z.cps.size (fun i v => ∃ c u, z.cps[i]? = some c ∧ v = .str ⟨#[c]⟩ u) (fun i h => h.IsStrIter it (strIterType z) z t i) := by
  unfold strIterType
  split
  · exact Draws.strAscii hh it z t
  · exact Draws.strWide hh it z t
theorem turn_enumS {P : Program} {w : World} {K : PySem.W.Frag} {elts : List Expr} {kk : Nat} {tpos : Pos} (z : Str) (t : Tok) (e it : Addr) :
    Turn P w K (.Tuple elts kk tpos) (IteS z) [e, it] e
      (fun i h => (∃ old, IsEnum h e it ((i : Nat) : Int) old) ∧ h.IsStrIter it (strIterType z) z t i ∧ e ≠ it ∧ i ≤ z.cps.size) where
  mem := by simp
  obj := fun i h st b hb => by
    obtain ⟨⟨old, he⟩, ⟨o, ho, _, od⟩, _⟩ := st
    rcases (show b = e ∨ b = it by simpa using hb) with q | q
    · rw [q]
      exact ⟨_, he, fun v n => nomatch n⟩
    · rw [q]
      exact ⟨o, ho, fun v n => by rw [od] at n; cases n⟩
  keep := fun i h h' ⟨⟨old, he⟩, ⟨o, ho, r⟩, ne, le⟩ k => ⟨⟨old, k e (by simp) _ he⟩, ⟨o, k it (by simp) o ho, r⟩, ne, le⟩
  item := by
    intro X eP ew eK calm i pins s σ H E J fp st more
    subst eP ew eK
    obtain ⟨⟨old, he⟩, hit, ne, le⟩ := st
    have more' : i < z.cps.size := more
    have le1 : e < s.heap.objs.size := Heap.lt_size he
    have le2 : it < s.heap.objs.size := let ⟨_, q, _⟩ := hit; Heap.lt_size q
    refine wpAny_pyNext_enum_itemD (draw_signs (by exact J.ok.hd calm) it z t) he hit more' ne (by simpa using ne)
      fun u h' tk ⟨c, tu, hc, eu⟩ out hit' hT hsz kept => ?_
    subst eu
    refine ⟨_, rfl, wpAny_letOwnedTupleGo_enum (s := { s with heap := h', toks := tk + 1 }) out fun h'' he' sb => ?_⟩
    have hT2 : h''.get? s.heap.objs.size = some { cls := .type "tuple", data := .seq #[.int i tk, .str ⟨#[c]⟩ tu] } :=
      (sb.2 _ (Nat.ne_of_gt le1)).trans hT
    have isNew : ObjOk X.prog X.w (upd H s.heap.objs.size (.tup [.int (i : Nat), .str ⟨#[c]⟩])) h'' s.heap.objs.size
        (.tup [.int (i : Nat), .str ⟨#[c]⟩]) :=
      ⟨by show 2 ≤ sizeLine; decide, [.int i tk, .str ⟨#[c]⟩ tu], .cons ⟨_, rfl⟩ (.cons ⟨_, rfl⟩ .nil), ⟨_, hT2, rfl, _, rfl⟩⟩
    have J1 : Inv X pins σ (upd H s.heap.objs.size (.tup [.int (i : Nat), .str ⟨#[c]⟩])) { s with heap := h'', toks := tk + 1 } :=
      J.turnedNew (ch := [e, it]) (fun b ob hb q => (sb.2 b (fun n => hb (by simp [n]))).trans
        (kept b ob (fun n => hb (by simp [n])) (fun n => hb (by simp [n])) q)) fp (Nat.le_refl _) isNew
    refine ⟨.ref s.heap.objs.size, _, J1, rfl, ⟨_, c, rfl, J.hok.fresh (Nat.le_refl _), rfl, hc⟩,
      ⟨⟨.str ⟨#[c]⟩ tu, ?_⟩, ?_, ne, more'⟩, fun b hb => ?_⟩
    · have e1 : ((i + 1 : Nat) : Int) = (i : Int) + 1 := by omega
      rw [e1]
      exact he'
    · obtain ⟨o, ho, r⟩ := hit'
      exact ⟨o, (sb.2 it (Ne.symm ne)).trans ho, r⟩
    · have : b < s.heap.objs.size := by
        rcases (show b = e ∨ b = it by simpa using hb) with q | q
        · rw [q]; exact le1
        · rw [q]; exact le2
      rw [upd_ne (Nat.ne_of_lt this)]
      exact (fp b hb).1
  done := by
    intro X eP ew eK calm i pins s σ H E J fp st stop
    subst eP ew eK
    obtain ⟨⟨old, he⟩, hit, ne, le⟩ := st
    obtain rfl : i = z.cps.size := Nat.le_antisymm le stop
    obtain ⟨f0, f1, f2, f3, f4, f5⟩ := fp it (by simp)
    exact wpAny_pyNext_enum_endD (draw_signs (by exact J.ok.hd calm) it z t) he hit fun h' ext =>
      ⟨rfl, J.turned (t' := s.toks) (fun b o hb q => ext b o hb q) f0 f1 f3 f4 f5⟩
  self := fun A i s Q E ⟨⟨_, he⟩, _⟩ h => wpAny_pyIter_enum he h
def iEnumS (ta : TA) : TI := fun σ H R => ta σ H fun vs H1 => ∃ z, vs = [.str z] ∧ R (IteS z) H1
theorem pi_enumS {X : Cx} {e : Expr} {ta : TA} {p pos tpos : Pos} {elts : List Expr} {kk : Nat} (hg : Gl X "enumerate") (hm : X.mg "enumerate" = none)
    (ha : PA X [e] ta) (one : starEach [e] X.env = [(false, eval e X.env)] := by rfl) :
    PI X (.Tuple elts kk tpos) (.Call (.Name "enumerate" p) [e] [] pos) (iEnumS ta) := by
  refine ⟨fun pn sA σ H R J want => ?_⟩
  refine Call_ (ld_blt J hg hm boot_enumerate (PyProof.Rows.callWith_type1 (thn (ha.run pos pn sA σ H _ J want)
    fun us s1 ⟨vs, H1, J1, r1, z, ez, q⟩ => ?_) one rfl))
  subst ez
  obtain ⟨u, rfl, t, rfl⟩ := vals1 r1
  refine call_enumerate_str fun h' he hit hsz hk => wpAny_pyIter_enum he ?_
  have J2 : Inv X pn σ H1 { s1 with heap := h' } := J1.kept (t' := s1.toks) hk
  refine ⟨s1.heap.objs.size + 1, [s1.heap.objs.size + 1, s1.heap.objs.size], _, _, H1, rfl, J2, turn_enumS z t _ _,
    ⟨⟨.none, he⟩, hit, Nat.succ_ne_self _, Nat.zero_le _⟩, fun b hb => ?_, q⟩
  have up : s1.heap.objs.size ≤ b := by
    rcases (show b = s1.heap.objs.size + 1 ∨ b = s1.heap.objs.size by simpa using hb) with n | n
    · rw [n]; exact Nat.le_succ _
    · rw [n]; exact Nat.le_refl _
  exact J1.fpOk up (J1.hok.fresh up)
theorem walk_enumS {z : Str} : Walk (IteS z) z.cps.size (fun _ => True)
    (YPair (fun i => some (.int (i : Nat))) (fun i => (z.cps[i]?).map fun c => V.str ⟨#[c]⟩)) :=
  ⟨fun _ _ hi _ => hi, fun _ _ => Nat.le_refl _, fun i H x H' _ _ ⟨T, c, h1, h2, h3, h4⟩ => ⟨T, _, _, h1, h2, h3, rfl, by show (z.cps[i]?).map _ = _; rw [h4]; rfl⟩⟩
end L2
namespace L2
open PySem PySem.Spec PyProof.Rows
/-- at a: an exception of the class at C, its dict d -/
def exc (a C : Addr) (d : Option Addr) : HO := .ext fun h =>
  ∃ (o : Obj) (us : Array Value), h.get? a = some o ∧ o.cls = .ref C ∧ o.dict = d ∧ o.data = .fields us
theorem exc_ok {P : Program} {w : World} {H : Hp} {h : Heap} {a C : Addr} {d : Option Addr} {o : Obj} {us : Array Value}
    (e : h.get? a = some o) (c : o.cls = .ref C) (k : o.dict = d) (z : o.data = .fields us) : ObjOk P w H h a (exc a C d) :=
  ⟨⟨o, us, e, c, k, z⟩, ⟨o, e⟩, fun _ _ ⟨u, vs, q, r⟩ st => ⟨u, vs, st u q, r⟩⟩
section
variable {X : Cx} {pins : List (Addr × Obj)} {σ : St} {H : Hp} {s : Shared}
/-- what stands in the heap, and was new to the def, is tracked from now on -/
theorem Inv.track {a : Addr} {o : HO} (I : Inv X pins σ H s) (hn : H a = none) (h0 : X.s_0.heap.get? a = none)
    (nL : a ≠ X.env.locals) (nC : ∀ x c, X.env.cells.lookup x = some c → c ≠ a) (nP : ∀ p ∈ X.pn ++ pins, p.1 ≠ a)
    (new : ObjOk X.prog X.w (upd H a o) s.heap a o) : Inv X pins σ (upd H a o) s where
  ok := I.ok
  os := I.os
  bare := I.bare
  base := {
    keep := I.base.keep
    slot := I.base.slot
    free := fun b u e n hx => by
      have hb : b ≠ a := fun z => by
        rw [z, h0] at e
        cases e
      rw [upd_ne hb]
      exact I.base.free b u e n hx
    there := I.base.there
    tups := fun b xs e => by
      have q := I.base.tups b xs e
      rw [upd_ne (ne_of_none q hn)]
      exact q
    frzs := fun b u v e => by
      have q := I.base.frzs b u v e
      rw [upd_ne (ne_of_none q hn)]
      exact q
    tbls := fun b ps e => by
      obtain ⟨m, q⟩ := I.base.tbls b ps e
      exact ⟨m, by rw [upd_ne (ne_of_none q hn)]; exact q⟩ }
  loc := I.loc
  cell := I.cell
  free := by
    rw [upd_ne (Ne.symm nL)]
    exact I.free
  freeC := fun x c e => by
    rw [upd_ne (nC x c e)]
    exact I.freeC x c e
  pin := fun p hp => by
    obtain ⟨e, n, r⟩ := I.pin p hp
    exact ⟨e, by rw [upd_ne (nP p hp)]; exact n, r⟩
  hok := I.hok.laidN (fun _ _ q => q) hn new
  len := I.len
end
/-- what a clause that keeps its exception wishes of the block ahead; i: the slot of its name, m: how many slots there are -/
def wKeep (K : PySem.W.Frag) (c : Value) (m i : Nat) (ts : Addr → Value → Option Addr → TS) (Wo : WX) (D : Ends) : WX := fun cls d σ H =>
  ∃ b, PySem.W.exmOne K cls c = some b ∧ (b = false → Wo cls d σ H) ∧
    (b = true → σ.length = m → ∃ C, cls = .ref C ∧ ∀ a, H a = none →
      ts a cls d { nx := fun σ' H' => D.nx (σ'.set i none) (upd H' a (exc a C d)), rt := fun _ _ => False } (σ.set i (some (.ref a))) H)
section
variable {X : Cx} {x n : Str} {c : Value} {i : Nat} {body suite : List Stmt} {b0 : Stmt} {np pos pos' : Pos} {tb : WX → TS}
  {ts : Addr → Value → Option Addr → TS} {Wo : WX}
theorem ps_try_keep (hs : X.stack = X.env :: X.outer) (hf : X.env.frame = some X.env.locals) (hex : X.ex = []) (hN : X.N.Nodup) (hi : X.N[i]? = some n)
    (hl : X.env.kindOf n = some .local) (hc : Names X x c) (tk : Takes X Wo)
    (hb : ∀ (W : WX) (pn : List (Addr × Obj)) (xe : Value → Shared → Prop), Takes (X.tr pn xe) W →
      PassesOwn (model X.prog X.w) X.A X.env xe → PSs (X.tr pn xe) body (tb W))
    (hsu : ∀ (a : Addr) (oe : Obj) (cls : Value) (d : Option Addr) (pn : List (Addr × Obj)), Zc cls d oe →
      (∃ vs, oe.data = .fields vs) → PSs (X.suite a ((a, oe) :: pn)) (b0 :: suite) (ts a cls d)) :
    PS X (.Try body [.ExceptHandler (some (.Name x np)) (some n) (b0 :: suite) pos'] [] [] pos)
      (fun D σ H => tb (wKeep X.K c X.N.length i ts Wo D) D σ H) := by
  constructor
  intro pins s σ H D I h
  have ok := I.ok
  have fr : X.A.frames = some (X.env :: X.outer) := by
    rw [ok.frames, hs]
  refine wpAny_Try_except (wpAny_mono ((hb (wKeep X.K c X.N.length i ts Wo D) (X.pn ++ pins) _ ?_ PassesOwn.looking).run [] s σ H D (I.toTry _) h) ?_ (fun _ _ e => e))
  rotate_left
  · intro f s1 q
    cases f with
    | next =>
      obtain ⟨σ1, H1, I1, q1⟩ := q
      exact wpAny_execs_nil ⟨σ1, H1, I1.ofTry ok, q1⟩
    | brk =>
      obtain ⟨σ1, H1, I1, q1⟩ := q
      exact ⟨σ1, H1, I1.ofTry ok, q1⟩
    | cont =>
      obtain ⟨σ1, H1, I1, q1⟩ := q
      exact ⟨σ1, H1, I1.ofTry ok, q1⟩
    | ret u =>
      obtain ⟨v, σ1, H1, I1, r1, q1⟩ := q
      exact ⟨v, σ1, H1, I1.ofTry ok, r1, q1⟩
  · rintro u s2 ⟨a, B, sI, pins', σ', H', cls, d, rfl, J0, nb, up, sky, na, os, ag, b, hm, hno, hyes⟩
    have J : Inv X pins σ' H' sI := J0.ofTry ok
    have sky1 : Sky B (X.env :: X.outer) a (Zc cls d) X.env.locals s2.heap := by
      rw [← hs]
      exact sky
    refine Sky.land Zc.steady fr hf sky1 fun h3 fl up3 => ?_
    have J3 : Inv X pins σ' H' { s2 with heap := h3 } := J.landed nb fl.1 (up.trans up3) os ag
    obtain ⟨o3, us3, e3, z3, d3⟩ := fl.there
    have nfr : a ∉ frs (X.env :: X.outer) := fun hm => by
      obtain ⟨_, o, e, nf⟩ := fl.2.2.1.mem hm
      rw [e3] at e
      cases e
      exact nf _ d3
    have nL : a ≠ X.env.locals := fun z => nfr (List.mem_filterMap.mpr ⟨X.env, List.mem_cons_self, by rw [hf, z]⟩)
    have inFs : ∀ {b : Addr}, b ∈ X.fs → b ∈ frs (X.env :: X.outer) := fun hm => by
      obtain ⟨e, he, q⟩ := List.mem_filterMap.mp hm
      exact List.mem_filterMap.mpr ⟨e, List.mem_cons_of_mem _ he, q⟩
    have nF : a ∉ X.fs := fun hm => nfr (inFs hm)
    have a0 : ∀ o, sI.heap.get? a ≠ some o := fun o e => by
      have q := nb a o e (by
        show a ∉ frs X.stack
        rw [hs]
        exact nfr)
      rw [fl.2.1] at q
      cases q
    have h0 : X.s_0.heap.get? a = none := by
      cases e : X.s_0.heap.get? a with
      | none => rfl
      | some o =>
        obtain ⟨o', q⟩ := J.base.there a o e (by rw [hex]; exact fun z => nomatch z)
        exact absurd q (a0 o')
    have nP : ∀ p ∈ X.pn ++ pins, p.1 ≠ a := fun p hp z => by
      have q := (J.pin p hp).1
      rw [z] at q
      exact a0 _ q
    have S3 := J3.suite e3 d3 na nL nF
    refine wpAny_handleBy_cons (codeAny_handlers_test ?_) (by intro q; cases q)
    have LM := PySem.W.exm_one (M := model X.prog X.w) J3.kIn
      (fun A Q E s k q => wpAny_typeOf_ref (k _ _ e3) (by rw [z3.1]; exact q) : PySem.W.Looks (model X.prog X.w) h3 (typeOf (.ref a)) cls) hm
    have named : ∀ {Q : Value → Shared → Prop} {E : Value → Shared → Prop}, Q c { s2 with heap := h3 } →
        wpAny (model X.prog X.w) (X.A.mark (some (.ref a))) (eval (.Name x np) X.env) Q E { s2 with heap := h3 } := fun {Q E} q => by
      obtain ⟨hg, hdb, hm | ⟨hm, hv, hnn⟩⟩ := hc
      · exact ld_glob (X := X.suite a ((a, o3) :: (X.pn ++ pins))) S3 hg hm q hdb
      · exact ld_blt (X := X.suite a ((a, o3) :: (X.pn ++ pins))) S3 hg hm hv q hnn hdb
    refine named (LM.here ?_)
    cases b with
    | true =>
      obtain ⟨C, rfl, hk⟩ := hyes rfl J.len
      refine codeAny_handlers_suite_as (HandSPX.lands_againZ fl fun h4 fl4 up4 => ?_)
      have J4 : Inv X pins σ' H' { s2 with heap := h4 } := J.landed nb fl4.1 ((up.trans up3).trans up4) os ag
      obtain ⟨o4, us4, e4, z4, d4⟩ := fl4.there
      refine store_ok (X := X.suite a ((a, o4) :: (X.pn ++ pins))) (v := .ref a) (J4.suite e4 d4 na nL nF) hN hi (.inl hl) rfl (fun s5 S5 => ?_) (.inr hl)
      refine wpAny_mono ((hsu a o4 _ d (X.pn ++ pins) z4 ⟨_, d4⟩).run [] s5 _ H' _ S5 (hk a na)) (fun f s6 q => ?_) (fun _ _ z => False.elim z)
      cases f with
      | next =>
        obtain ⟨σ6, H6, S6, q6⟩ := q
        have Jp : Inv X ((a, o4) :: pins) σ6 H6 s6 := ⟨ok, S6.os, S6.bare, S6.base, S6.loc, S6.cell, S6.free, S6.freeC, fun p hp => by
          refine S6.pin p ?_
          rw [List.append_nil]
          rcases List.mem_append.mp hp with h | h
          · exact List.mem_cons_of_mem _ (List.mem_append_left _ h)
          · rcases List.mem_cons.mp h with h | h
            · rw [h]
              exact List.mem_cons_self
            · exact List.mem_cons_of_mem _ (List.mem_append_right _ h), S6.hok, S6.len⟩
        show wpAny (model X.prog X.w) X.A (do bindName X.env n .none; unbindBehindTheSuite X.env n pos') _ X.xe s6
        refine gone_ok Jp hN hi hl fun s7 J7 => ?_
        obtain ⟨e7, n7, _⟩ := J7.pin (a, o4) (List.mem_append_right _ List.mem_cons_self)
        have J8 : Inv X pins (σ6.set i none) H6 s7 := ⟨ok, J7.os, J7.bare, J7.base, J7.loc, J7.cell, J7.free, J7.freeC, fun p hp => J7.pin p (by
          rcases List.mem_append.mp hp with h | h
          · exact List.mem_append_left _ h
          · exact List.mem_append_right _ (List.mem_cons_of_mem _ h)), J7.hok, J7.len⟩
        refine ⟨_, _, J8.track n7 h0 nL (fun y k ek z => ?_) nP (exc_ok e7 z4.1 z4.2 d4), q6⟩
        obtain ⟨v, o, eo, dd⟩ := J8.cell y k ek
        rw [z] at eo
        have eo' : some o4 = some o := e7.symm.trans eo
        cases eo'
        rw [d4] at dd
        cases dd
      | brk =>
        obtain ⟨_, _, _, z⟩ := q
        exact False.elim z
      | cont =>
        obtain ⟨_, _, _, z⟩ := q
        exact False.elim z
      | ret u =>
        obtain ⟨_, _, _, _, _, z⟩ := q
        exact False.elim z
    | false =>
      refine wpAny_handleBy_nil ?_
      obtain ⟨k1, k2, k3, oe, vs, T, oT, ts', he, hz, hd, h1, hr⟩ := id fl
      unfold PySem.passOn
      refine wpAny_bind (wpAny_field he hd h1 ?_)
      rw [if_neg (show ¬ ((Value.ref T == Value.none) = true) from by simp)]
      have fin : wpAny (model X.prog X.w) X.A (setFlight (.ref a) X.env.frame)
          (fun _ s4 => wpAny (model X.prog X.w) X.A (throw (.ref a) : Sem Flow) (SP X pins D) X.xe s4) X.xe { s2 with heap := h3 } := by
        rw [hf]
        exact HandSPX.setFlight_upZ fl fun h4 hh up4 => wpAny_throw (tk _ _
          ⟨a, B, sI, pins, σ', H', cls, d, rfl, J, nb, (up.trans up3).trans up4, .inr (.inr (by rw [hs]; exact hh)), na, os, ag, hno rfl⟩)
      first
        | exact wpAny_bind (wpAny_pure (wpAny_bind fin))
        | exact wpAny_bind fin
end
theorem inst_exc {P : Program} {w : World} {H : Hp} {h : Heap} {a C dx : Addr} {fs : List (Str × V)}
    (hok : HOk P w H h) (ha : H a = some (exc a C (some dx))) (hd : H dx = some (.xd fs)) :
    ∃ (oe od : Obj) (mA : Str → Option Value), PySem.W.InstAt h a oe C (some od) ∧
      (∀ n, PySem.W.lookIn n od = some (mA n)) ∧ ∀ f, RelO (fs.lookup f) (mA f) := by
  have z : ObjOk P w H h a (exc a C (some dx)) := hok a _ ha
  obtain ⟨⟨oe, us, e, c, k, z⟩, _⟩ := z
  have y : ObjOk P w H h dx (.xd fs) := hok dx _ hd
  obtain ⟨mA, hn, r⟩ := y
  obtain ⟨od, ho, hl⟩ := lookIn_ns hn
  exact ⟨oe, od, mA, ⟨e, c, by unfold PySem.W.notCls; rw [z] <;> rfl, by rw [k]; exact ho⟩, hl, r⟩
/-- e.f, e kept -/
def tXw (K : PySem.W.Frag) (f : Str) (te : TE) : TE := fun σ H Q => te σ H fun x H1 =>
  ∃ (a C dx : Addr) (fs : List (Str × V)) (v : V), x = .ref a ∧ XCl K C ∧ PySem.W.findIn K (.ref C) f = some none ∧
    H1 a = some (exc a C (some dx)) ∧ H1 dx = some (.xd fs) ∧ fs.lookup f = some v ∧ Q v H1
/-- isinstance(e, c), e kept -/
def rIsw (K : PySem.W.Frag) : List V → Hp → VK → Prop := fun xs H Q =>
  ∃ (a C dx : Addr) (fs : List (Str × V)) (c : V) (cv : Value) (b : Bool), xs = [.ref a, c] ∧ XCl K C ∧
    H a = some (exc a C (some dx)) ∧ H dx = some (.xd fs) ∧
    (∀ u, RelV c u → u = cv) ∧ PySem.W.kitOne K (.ref C) cv = some b ∧ Q (.bl b) H
section
variable {X : Cx}
theorem pe_xw {e : Expr} {te : TE} {pos : Pos} {f : Str} (he : PE X e te)
    (hb : attributeBase e f X.env (eval e X.env) = eval e X.env := by rfl) :
    PE X (.Attribute e f pos) (tXw X.K f te) := by
  refine ⟨fun pins s σ H Q I h => attr_of hb (thn (he.run pins s σ H _ I h) fun u s1 hh => ?_)⟩
  obtain ⟨x, H1, I1, rx, a, C, dx, fs, v, rfl, T, hno, ha, hd, l, q⟩ := hh
  obtain rfl : u = Value.ref a := rx
  obtain ⟨oe, od, mA, J, hl, hr⟩ := inst_exc I1.hok ha hd
  obtain ⟨u, hu, ru⟩ := RelO.some_of (v := v) (o := mA f) (by rw [← l]; exact hr f)
  exact HandSPX.exc_get I1.kIn J T.ga T.gg T.ex (PySem.W.findObj_own T.hd hno rfl (by rw [hl, hu]))
    (handed_of ru) ⟨v, H1, I1.tok _, ru, q⟩
theorem call_isw : CallR X (.builtin "isinstance") (rIsw X.K) := by
  intro pins s σ H xs us Q I r h
  obtain ⟨a, C, dx, fs, c, cv, b, rfl, T, ha, hd, hc, e, q⟩ := h
  obtain ⟨u1, u2, rfl, r1, r2⟩ := vals2 r
  obtain rfl : u1 = Value.ref a := r1
  obtain rfl := hc _ r2
  obtain ⟨oe, od, _, J, _⟩ := inst_exc I.hok ha hd
  exact PySem.W.kia_one (PySem.W.kitx_exc T.ci T.ga T.gg T.ex T.ca T.cn T.ct T.co) I.kIn J e (fun z => nomatch z)
    fun tk => ⟨.bl b, H, I.tok tk, rfl, q⟩
end
end L2
namespace L2
open PySem PySem.Spec PyProof.Rows
/-- what __init__ keeps; the dict is told to be new -/
def spInd (C : Addr) (fs : List Str) : Sp := fun vs H Q _ => ∃ (a : Addr) (xs : List V),
  vs = .ref a :: xs ∧ xs.length = fs.length ∧ H a = some (exo a C none) ∧
  ∀ (dx : Addr) (H' : Hp), H dx = none → dx ≠ a → But a H H' → H' a = some (exo a C (some dx)) →
    H' dx = some (exd dx (fs.zip xs).reverse) → Q .non H'
/-- what raising one keeps -/
def MkR (P : Program) (w : World) (K : PySem.W.Frag) (mg : Str → Option Value) (base : Heap) (x : Str) (fs : List Str) :
    Prop := mg x = some (.ref (adr mg x)) ∧ ∃ fI fd, XMk K (adr mg x) fI ∧ Binds K fd ("self" :: fs) [] ∧
  FnOk P w K mg base CX0 1 fI fd ("self" :: fs) (spInd (adr mg x) fs)
section
variable {P : Program} {w : World} {K : PySem.W.Frag} {mg : Str → Option Value} {base : Heap}
theorem ini1d {x q f : Str} {st : Stmt} {fI : Addr} {fd : FuncData} (E : ErrK K mg x [f])
    (F : Fun K "__init__" q st fI fd) (S : FnScope ["self", f] ["self", f] (defScope st))
    (hb : ∀ (cdv : Value) (A : Around) (outer : List Env) (s : Shared) (H : Hp) (E : XK),
      PSs (cxOf CX0 P w K mg base ["self", f] q (defScope st) fI cdv A outer s H E).nox (defBody st)
        (tOst K f (tVar 0) (tVar 1))) :
    FnOk P w K mg base CX0 1 fI fd ["self", f] (spInd (adr mg x) [f]) := by
  refine F.ok S (fun vs H Q E h => ?_) (fun cdv A outer s H vs Q E' hr h => ?_)
  · obtain ⟨a, xs, rfl, l, _⟩ := h
    simp only [List.length_cons] at l ⊢
    omega
  · obtain ⟨a, xs, rfl, l, ha, k⟩ := h
    obtain ⟨v, rfl⟩ : ∃ v, xs = [v] := by
      match xs, l with
      | [v], _ => exact ⟨v, rfl⟩
    refine ⟨_, hb cdv A outer s H E', _, rfl, _, rfl, a, _, rfl, E.T, E.na f (by simp), .inl ⟨ha, fun dx nd ne => ?_⟩⟩
    exact k dx _ nd ne (fun b hb o e => upd_oth hb (upd_new nd e)) upd_same ((upd_ne ne).trans upd_same)
theorem ini2d {x q f g : Str} {st : Stmt} {fI : Addr} {fd : FuncData} (E : ErrK K mg x [f, g])
    (F : Fun K "__init__" q st fI fd) (S : FnScope ["self", f, g] ["self", f, g] (defScope st))
    (hb : ∀ (cdv : Value) (A : Around) (outer : List Env) (s : Shared) (H : Hp) (E : XK),
      PSs (cxOf CX0 P w K mg base ["self", f, g] q (defScope st) fI cdv A outer s H E).nox (defBody st)
        (tSeq (tOst K f (tVar 0) (tVar 1)) (tOst K g (tVar 0) (tVar 2)))) :
    FnOk P w K mg base CX0 1 fI fd ["self", f, g] (spInd (adr mg x) [f, g]) := by
  refine F.ok S (fun vs H Q E h => ?_) (fun cdv A outer s H vs Q E' hr h => ?_)
  · obtain ⟨a, xs, rfl, l, _⟩ := h
    simp only [List.length_cons] at l ⊢
    omega
  · obtain ⟨a, xs, rfl, l, ha, k⟩ := h
    obtain ⟨v, u, rfl⟩ : ∃ v u, xs = [v, u] := by
      match xs, l with
      | [v, u], _ => exact ⟨v, u, rfl⟩
    refine ⟨_, hb cdv A outer s H E', _, rfl, _, rfl, a, _, rfl, E.T, E.na f (by simp), .inl ⟨ha, fun dx nd ne => ?_⟩⟩
    have ha2 : (upd (upd H dx (exd dx [(f, v)])) a (exo a (adr mg x) (some dx))) a = some (exo a (adr mg x) (some dx)) :=
      upd_same
    have hd2 : (upd (upd H dx (exd dx [(f, v)])) a (exo a (adr mg x) (some dx))) dx = some (exd dx [(f, v)]) :=
      (upd_ne ne).trans upd_same
    refine ⟨_, rfl, _, rfl, a, _, rfl, E.T, E.na g (by simp), .inr ⟨dx, _, ha2, hd2, (by show 1 ≤ 900; decide), ?_⟩⟩
    refine k dx _ nd ne (fun b hb o e => ?_) ((upd_ne ne.symm).trans ha2) upd_same
    exact upd_oth (ne_of_none e nd) (upd_oth hb (upd_new nd e))
end
/-- X(e, ..), to be raised -/
def tRz (C : Addr) (fs : List Str) (ta : TA) : St → Hp → XK → Prop := fun σ H Q => ta σ H fun vs H1 =>
  vs.length = fs.length ∧ fs.length ≤ 900 ∧ ∀ (d : Addr) (H' : Hp), H1 d = none → Same H1 H' →
    H' d = some (.xd (fs.zip vs).reverse) → Q (.ref C) (some d) H'
theorem PA.weaker {X : Cx} {es : List Expr} {ta : TA} (h : PA X es ta) :
    PA X es (fun σ H Q => ∃ Q0, ta σ H Q0 ∧ ∀ vs H1, Q0 vs H1 → Q vs H1) :=
  ⟨fun pos pins s σ H Q I ⟨Q0, z, k⟩ => thn (h.run pos pins s σ H Q0 I z) fun us s1 ⟨vs, H1, I1, r, q⟩ => ⟨vs, H1, I1, r, k _ _ q⟩⟩
section
variable {X : Cx} {x : Str} {p pos pos' : Pos} {e : Expr} {es : List Expr} {ta : TA} {fs : List Str} {j : Nat} {W : WX}
theorem pmk_e (M : MkR X.prog X.w X.K X.mg X.base x fs) (hr : Room j X.A) (hg : Gl X x) (ha : PA X (e :: es) ta)
    (hj : 2 ≤ j := by decide) (hx : Passes CX0 X E0 := by exact pass0) (hdb : (x == ("__debug__" : Str)) = false := by decide)
    (he : starEach (e :: es) X.env = (false, eval e X.env) :: starEach es X.env := by rfl)
    (hpl : (backTo pos (starEach es X.env)).any (·.1) = false := by rfl) :
    PMk X (.Call (.Name x p) (e :: es) [] pos) (tRz (adr X.mg x) fs ta) := by
  obtain ⟨hm, fI, fd, XM, hb, F⟩ := M
  intro pins s σ H Q I h
  refine pmk_oex (sp := spInd (adr X.mg x) fs) (dvs := []) XM.T XM.ini XM.ty F (hr.mono hj) hb .nil hx hg hm ha.weaker hdb he hpl pins s σ H Q I ⟨_, h, fun vs H1 ⟨l, l9, k⟩ => ?_⟩
  refine ⟨by omega, fun a hn => ⟨a, vs ++ [], rfl, by rw [List.append_nil]; exact l, upd_same, fun dx H' nd ne hbt ea ed => ?_⟩⟩
  rw [List.append_nil] at ed
  have n1 : H1 dx = none := by
    rw [upd_ne ne] at nd
    exact nd
  refine ⟨rfl, dx, _, ea, ed, n1, k dx _ n1 (fun b o z => ?_) upd_same⟩
  have hba : b ≠ a := ne_of_none z hn
  rw [upd_ne (ne_of_none z n1), del_ne hba]
  exact hbt b hba o (upd_new hn z)
/-- raise X(e, ..) -/
theorem ps_rz (hc : X.calm = true) (tk : Takes X W) (M : MkR X.prog X.w X.K X.mg X.base x fs) (hr : Room j X.A) (hg : Gl X x)
    (ha : PA X (e :: es) ta) (hj : 2 ≤ j := by decide) (hx : Passes CX0 X E0 := by exact pass0)
    (hdb : (x == ("__debug__" : Str)) = false := by decide)
    (he : starEach (e :: es) X.env = (false, eval e X.env) :: starEach es X.env := by rfl)
    (hpl : (backTo pos (starEach es X.env)).any (·.1) = false := by rfl) :
    PS X (.Raise (some (.Call (.Name x p) (e :: es) [] pos)) none pos') (fun _ σ H => tRz (adr X.mg x) fs ta σ H fun cls d H' => W cls d σ H') :=
  ps_raise hc tk (pmk_e M hr hg ha hj hx hdb he hpl)
end
end L2
namespace PySem.W
open PySem PySem.Calls PyProof.Rows
section
variable {prog : Program} {w : World} {M : Model} {A : Around} {E : Value → Shared → Prop} {s : Shared} {K : Frag} {x C f dx : Addr}
theorem q22_keeper {h : Heap} (hx : h.get? x = some (instObj C dx)) : Looks M h (keeperOf (.ref x)) .caller := by
  unfold keeperOf
  exact (Looks.ld (part := none) hx).andThen .now
theorem q22_call {R : Result → Shared → Prop} {args : Args} {o : Obj} {fd : FuncData} (X : K.In s.heap) (hx : s.heap.get? x = some (instObj C dx))
    (hs : findIn K (.ref C) "__call__" = some (some (.ref f))) (tf : typeIn K (.ref f) = some (.type "function"))
    (lk : K.lookup f = some o) (df : o.data = .func fd)
    (h : codeAny (model prog w) A (.call (.ref f) ⟨.ref x :: args.pos, args.kw⟩) R s) : codeAny (model prog w) A (.call (.ref x) args) R s := by
  refine codeAny_of_tree ?_
  show wpAny _ A.in1 (callAny (.ref x) args) _ _ s
  unfold callAny
  refine wpAny_bind ((Looks.ld (part := none) hx).here ?_)
  show wpAny _ A.in1 (callAny.viaDunder (.ref x) args) _ _ s
  unfold callAny.viaDunder
  have L1 : Looks (model prog w) s.heap (specialOf (.ref x) "__call__") (some (.ref f)) := by
    unfold specialOf
    refine Looks.andThen (a := .ref C) ?_ (looks_findIn X hs)
    exact (fun A Q E s k q => wpAny_typeOf_ref (k _ _ hx) q)
  have L2 : Looks (model prog w) s.heap (bindSpecial (.ref f) (.ref x)) (.ref f, [.ref x]) := bind_fn X (.ref x) tf
  have L3 : Looks (model prog w) s.heap (callAny.plainCallee (.ref f)) true := by
    unfold callAny.plainCallee
    refine (Looks.ld (part := none) (X _ _ lk)).andThen ?_
    rw [df]
    exact .now
  refine wpAny_bind (L1.here (wpAny_bind (L2.here (wpAny_bind (L3.here ?_)))))
  exact wpAny_pure ⟨rfl, h⟩
theorem q22_with {P : Heap → Prop} {pos : Pos} {g : Value} {first : List Value} {Q : Value → Shared → Prop} {args : List (Bool × Sem Value)}
    {keywords : List (Option Str × Sem Value)} (hplain : (args.any (·.1) || keywords.any (·.1.isNone)) = false)
    (hk : ∀ h, P h → Looks M h (keeperOf g) .caller)
    (h : wpAny M A (evalArgs g true args keywords) (fun a s1 => P s1.heap ∧ wpAny M A (call g (first ++ a.pos) a.kw) Q E s1) E s) :
    wpAny M A (callWith pos g first args keywords) Q E s := by
  unfold callWith
  refine wpAny_bind (wpAny_holding (wpAny_mono h (fun a s1 h1 => wpAny_bind (wpAny_standAt ?_)) fun _ _ x => x))
  simp only [hplain]
  refine wpAny_bind ((hk _ h1.1).here ?_)
  refine wpAny_bind (wpAny_operateT (wpAny_mono h1.2 (fun r s2 hr => ?_) fun _ _ x => x))
  exact wpAny_bind (wpAny_holding (wpAny_point (wpAny_pure hr)))
end
end PySem.W
namespace L2
open PySem PySem.Spec PyProof.Rows
/-- how a class is called by its instances -/
structure CallM (K : PySem.W.Frag) (C f : Addr) : Prop where
  at_ : PySem.W.findIn K (.ref C) "__call__" = some (some (.ref f))
  ty : PySem.W.typeIn K (.ref f) = some (.type "function")
  fn : PySem.W.fnIn K f = true
theorem CallM.lk {K : PySem.W.Frag} {C f : Addr} (M : CallM K C f) : ∃ o fd, K.lookup f = some o ∧ o.data = .func fd := by
  have h := M.fn
  unfold PySem.W.fnIn at h
  split at h
  · rename_i e
    exact ⟨_, _, e, rfl⟩
  · cases h
/-- x(..), x an instance -/
def tInst (C : Addr) (sp : Sp) (E : XK) (tf : TE) (ta : TA) : TE := fun σ H Q => tf σ H fun x H1 => ∃ a, x = .ref a ∧
  ta σ H1 fun vs H2 => ∃ dx fs, H2 a = some (.ins C dx fs) ∧ sp (.ref a :: vs) H2 Q E
section
variable {X : Cx} {CX : CXT} {k j : Nat} {f C : Addr} {fd : FuncData} {ps : List Str} {sp : Sp} {E : XK} {x : Str} {p pos : Pos} {e : Expr} {es : List Expr} {tf : TE} {ta : TA}
theorem insGet {pins : List (Addr × Obj)} {σ : St} {H : Hp} {s : Shared} {a dx : Addr} {fs : List (Str × V)} (I : Inv X pins σ H s) (h : H a = some (.ins C dx fs)) :
    s.heap.get? a = some (PySem.W.instObj C dx) := by
  have z : ObjOk X.prog X.w H s.heap a (.ins C dx fs) := I.hok a _ h
  exact z.2.2.2.1
theorem run_inst {pins : List (Addr × Obj)} {σ : St} {H : Hp} {s : Shared} {Q : VK} {us ws : List Value} {vs : List V} {kw : List (Str × Value)} {a dx : Addr} {fs : List (Str × V)}
    (M : CallM X.K C f) (F : FnOk X.prog X.w X.K X.mg X.base CX k f fd ps sp) (hr : Room k X.A) (hx : Passes CX X E)
    (I : Inv X pins σ H s) (ea : H a = some (.ins C dx fs)) (r : Vals vs ws) (hb : BindsTo s fd ⟨.ref a :: us, kw⟩ (ps.zip (.ref a :: ws)))
    (h : sp (.ref a :: vs) H Q E) : wpAny (model X.prog X.w) X.A (call (.ref a) us kw) (EP X pins σ Q) X.xe s := by
  obtain ⟨o, fd', lk, df⟩ := M.lk
  refine wpAny_call (PySem.W.q22_call I.kIn (insGet I ea) M.at_ M.ty lk df
    (codeAny_mono (F.run X.A X.stack s H ⟨.ref a :: us, kw⟩ (.ref a :: ws) (.ref a :: vs) Q E hr I.env0 hb (.cons rfl r) h) fun r s' hq => ?_))
  cases r with
  | error e => exact hx pins σ H s e s' I hq
  | ok fl =>
    cases fl with
    | ret u => exact I.after hq
    | next => exact False.elim hq
    | brk => exact False.elim hq
    | cont => exact False.elim hq
theorem pe_inst (M : CallM X.K C f) (F : FnOk X.prog X.w X.K X.mg X.base CX k f fd ps sp) (hr : Room k X.A) (hb : Binds X.K fd ps []) (hx : Passes CX X E)
    (he : PE X (.Name x p) tf) (ha : PA X (e :: es) ta)
    (hst : starEach (e :: es) X.env = (false, eval e X.env) :: starEach es X.env := by rfl)
    (hpl : (backTo pos (starEach es X.env)).any (·.1) = false := by rfl) :
    PE X (.Call (.Name x p) (e :: es) [] pos) (tInst C sp E tf ta) := by
  refine ⟨fun pins s σ H Q I h => ?_⟩
  refine wpAny_Call_Name_kw (thn (he.run pins s σ H _ I h) fun u s1 ⟨v, H1, I1, r1, a, ev, q1⟩ => ?_)
  subst ev
  obtain rfl : u = Value.ref a := r1
  refine PySem.W.q22_with (P := fun h => ∃ C dx, h.get? a = some (PySem.W.instObj C dx)) ?_ (fun h ⟨_, _, e⟩ => PySem.W.q22_keeper e) ?_
  · rw [hst]
    show ((false || (backTo pos (starEach es X.env)).any (·.1)) || false) = false
    rw [hpl]
    rfl
  · have go : wpAny (model X.prog X.w) X.A (spliced (backTo pos (starEach (e :: es) X.env))) (fun us s2 => (∃ C dx, s2.heap.get? a = some (PySem.W.instObj C dx)) ∧
        wpAny (model X.prog X.w) X.A (call (.ref a) us []) (EP X pins σ Q) X.xe s2) X.xe s1 :=
      thn (ha.run pos pins s1 σ H1 _ I1 q1) fun us s2 ⟨vs, H2, I2, r2, dx, fs, ea, hsp⟩ => by
        refine ⟨⟨C, dx, insGet I2 ea⟩, ?_⟩
        refine run_inst M F hr hx I2 ea r2 ?_ hsp
        have hl := F.len _ _ _ _ hsp
        have z := hb s2 (Value.ref a :: us) I2.kIn (by
          rw [List.append_nil, ← hl, List.length_cons, List.length_cons, Paired.length r2])
        rw [List.append_nil] at z
        exact z
    rw [hst] at go ⊢
    exact PySem.Calls.evalArgs_plain go
/-- how keywords bind behind the instance -/
def KwI (fd : FuncData) (ps ks : List Str) : Prop := ∀ (s : Shared) (u : Value) (ws : List Value), ws.length = ks.length →
  BindsTo s fd ⟨[u], ks.zip ws⟩ (ps.zip (u :: ws))
end
end L2
namespace L2
open PySem PySem.Spec PyProof.Rows
/-- v is data and can be shown; its text -/
def Shw (K : PySem.W.Frag) (H : Hp) (v : V) (t : Str) : Prop := ∃ d : PyData, Dq K H v d ∧ d.showable = true ∧ d.depth ≤ 60 ∧
  d.shown.length ≤ sizeLine ∧ t = d.shown
def rRepV (K : PySem.W.Frag) : List V → Hp → VK → Prop := fun xs H Q => ∃ (v : V) (t : Str), xs = [v] ∧ Shw K H v t ∧ Q (.str t) H
theorem Shw.int {K : PySem.W.Frag} {H : Hp} (i : Int) (h : i.natAbs.log2 < 1920) : Shw K H (.int i) (toString i) :=
  ⟨_, .int i, by simpa [PyData.showable] using h, by simp [PyData.depth], by
    simpa only [PyData.shown] using int_text_fits h, by simp only [PyData.shown]⟩
theorem Shw.str {K : PySem.W.Frag} {H : Hp} (x : Str) (h : (reprText x).length ≤ sizeLine) : Shw K H (.str x) (reprText x) :=
  ⟨_, .str x, by simp [PyData.showable], by simp [PyData.depth], by simpa only [PyData.shown] using h, by simp only [PyData.shown]⟩
theorem call_reprV {X : Cx} (hA : X.A.guards = some []) (hu : X.A.units + 64 < cLine) : CallR X (.builtin "repr") (rRepV X.K) := by
  intro pins s σ H xs us Q I r h
  obtain ⟨v, t, rfl, ⟨d, hd, hs, hdp, hz, rfl⟩, q⟩ := h
  cases hd with
  | non =>
    obtain ⟨u, rfl, ru⟩ := vals1 r
    obtain rfl : u = Value.none := ru
    refine PySem.P.repr_of_none ⟨.str _, H, I.tok _, ⟨_, rfl⟩, ?_⟩
    simpa only [PyData.shown] using q
  | bl b =>
    obtain ⟨u, rfl, ru⟩ := vals1 r
    obtain rfl : u = Value.bool b := ru
    refine PySem.P.repr_of_bool ⟨.str _, H, I.tok _, ⟨_, rfl⟩, ?_⟩
    simpa only [PyData.shown] using q
  | int i =>
    obtain ⟨u, rfl, tk, rfl⟩ := vals1 r
    refine PySem.P.repr_of_int (by simpa [PyData.showable] using hs) ⟨.str _, H, I.tok _, ⟨_, rfl⟩, ?_⟩
    simpa only [PyData.shown] using q
  | str x =>
    obtain ⟨u, rfl, tk, rfl⟩ := vals1 r
    refine PySem.P.repr_of_str ⟨.str _, H, I.tok _, ⟨_, rfl⟩, ?_⟩ (by simpa only [PyData.shown] using hz)
    simpa only [PyData.shown] using q
  | lst h1 h2 => exact call_repq hA hu pins s σ H _ us Q I r ⟨_, _, rfl, .lst h1 h2, hs, hdp, hz, q⟩
  | tup h1 h2 => exact call_repq hA hu pins s σ H _ us Q I r ⟨_, _, rfl, .tup h1 h2, hs, hdp, hz, q⟩
  | dic h1 h2 => exact call_repq hA hu pins s σ H _ us Q I r ⟨_, _, rfl, .dic h1 h2, hs, hdp, hz, q⟩
end L2
namespace L2
open PySem PySem.Spec PyProof.Rows
/-- a def with the code object cdv -/
structure FunC (K : PySem.W.Frag) (x qual : Str) (st : Stmt) (f : Addr) (fd : FuncData) (cdv : Value) : Prop where
  ex : ∃ (oc : Value) (od : Option Addr) (kV doc pm : Value) (an : Option Addr) (ct : Value) (osl : Array (Option Value)),
    fd = PySem.W.fnOf x qual (defArgs st) (defBody st) (defScope st) .none kV doc pm an cdv ct ∧
      K.lookup f = some ⟨oc, od, .func fd, osl⟩ ∧ PySem.W.codeIn K cdv qual = true
  kp : PySem.W.keepIn K (.ref f) = true
section
variable {P : Program} {w : World} {K : PySem.W.Frag} {mg : Str → Option Value} {base : Heap} {k : Nat}
  {f : Addr} {fd : FuncData} {ps : List Str} {sp : Sp} {cdv : Value}
theorem FunC.okG {x qual : Str} {st : Stmt} {N : List Str} (F : FunC K x qual st f fd cdv) (S : FnScope N ps (defScope st))
    (len : ∀ vs H Q E, sp vs H Q E → vs.length = ps.length)
    (hbody : ∀ (A : Around) (outer : List Env) (s : Shared) (H : Hp) (vs : List V) (Q : VK) (E : XK),
      (A.deeper (envOfC qual (defScope st) s.heap.objs.size f cdv)).guards = some [] →
      Room k (A.deeper (envOfC qual (defScope st) s.heap.objs.size f cdv)) → sp vs H Q E →
      ∃ t, PSs (cxOf CX0 P w K mg base N qual (defScope st) f cdv A outer s H E).nox (defBody st) t ∧
        t { nx := fun _ H' => Q .non H', rt := Q } (start N vs) H) :
    FnG P w K mg base CX0 (k + 1) f fd ps sp := by
  obtain ⟨oc, od, kV, doc, pm, an, ct, osl, rfl, lk, hcd⟩ := F.ex
  refine ⟨len, fun A outer s H args us vs Q E hg hr e0 hb r hsp => ?_⟩
  have hl := len _ _ _ _ hsp
  have KX : K.In s.heap := e0.mod.kin.keeps fun b o e => (e0.bs b o e).1
  have lim : s.heap.NoLimit := e0.mod.nolimit.keeps fun b o e => (e0.bs b o e).1
  have kinds : ∀ y ∈ ps.zip us, (defScope st).names.lookup y.1 = some .local ∨
      ((defScope st).names.lookup y.1 = some .cell ∧
        ((cellsFrom (s.heap.objs.size + 1) (defScope st).names []).lookup y.1).isSome = true) := by
    rintro ⟨n, v⟩ hy
    rcases S.par n (List.of_mem_zip hy).1 with q | q
    · exact .inl q
    · exact .inr ⟨q, PySem.W.cellsFrom_some _ _ _ (.inl q)⟩
  refine codeAny_call_function hr.depth (KX _ _ lk) rfl S.co S.gen rfl (PySem.W.codeRec_of KX hcd) (hb _ _ _ _ ?_)
  refine wpAny_newFunctionEnv_cells S.kind kinds fun env he s1 x => ?_
  subst he
  refine ⟨lim.keeps x.toInCall.keep, codeAny_func ?_⟩
  have hg' : (A.deeper (envOfC qual (defScope st) s.heap.objs.size f cdv)).guards = some [] := by
    first
      | exact hg
      | simpa [Around.deeper] using hg
  obtain ⟨t, ht0, hq⟩ := hbody A outer s H vs Q E hg' (hr.deeper _) hsp
  have ht := ht0.nox
  have I : Inv (cxOf CX0 P w K mg base N qual (defScope st) f cdv A outer s H E) [] (start N vs) H s1 :=
    inv_start S hr.hd e0 hl r x
  refine wpAny_mono (ht.run [] s1 (start N vs) H _ I hq) (fun fl s' hs => ?_) fun e s' hs => hs
  have fin : ∀ {σ' : St} {H' : Hp} {v : V} {u : Value},
      Inv (cxOf CX0 P w K mg base N qual (defScope st) f cdv A outer s H E) [] σ' H' s' → RelV v u → Q v H' →
      CE outer P w H s Q u s' := fun J rv q => ⟨_, _, J.os, J.bare, J.base, J.hok, rv, q⟩
  cases fl with
  | ret u =>
    obtain ⟨v, σ', H', J, rv, q⟩ := hs
    exact fin J rv q
  | next =>
    obtain ⟨σ', H', J, q⟩ := hs
    exact fin (v := V.non) (u := Value.none) J rfl q
  | brk =>
    obtain ⟨_, _, _, q⟩ := hs
    exact False.elim q
  | cont =>
    obtain ⟨_, _, _, q⟩ := hs
    exact False.elim q
/-- a def of the top that makes lambdas: its code object's table stands at T -/
def OwnC (K : PySem.W.Frag) (mg : Str → Option Value) (base : Heap) (x : Str) (st : Stmt) (ps : List Str) (T : Addr) : Prop :=
  ∃ f fd c, mg x = some (.ref f) ∧ FunC K x x st f fd (.ref c) ∧ Binds K fd ps [] ∧ LamX.TabB base mg c T
theorem OwnC.ok {x : Str} {st : Stmt} {N : List Str} {T : Addr} (O : OwnC K mg base x st ps T)
    (S : FnScope N ps (defScope st)) (len : ∀ vs H Q E, sp vs H Q E → vs.length = ps.length)
    (hbody : ∀ (f c : Addr) (A : Around) (outer : List Env) (s : Shared) (H : Hp) (vs : List V) (Q : VK)
      (E : XK), LamX.TabB base mg c T → (A.deeper (envOfC x (defScope st) s.heap.objs.size f (.ref c))).guards = some [] →
      Room k (A.deeper (envOfC x (defScope st) s.heap.objs.size f (.ref c))) → sp vs H Q E →
      ∃ t, PSs (cxOf CX0 P w K mg base N x (defScope st) f (.ref c) A outer s H E).nox (defBody st) t ∧
        t { nx := fun _ H' => Q .non H', rt := Q } (start N vs) H) :
    Kp P w K mg base (k + 1) x ps sp := by
  obtain ⟨f, fd, c, hm, F, b, TB⟩ := O
  exact ⟨f, fd, hm, F.kp, b, F.okG S len fun A outer s H vs Q E hg hr h => hbody f c A outer s H vs Q E TB hg hr h⟩
/-- what calling an instance keeps; it may raise -/
def KmeX (P : Program) (w : World) (K : PySem.W.Frag) (mg : Str → Option Value) (base : Heap) (C : Addr) (k : Nat) (ps ks : List Str) (sp : Sp) : Prop :=
  ∃ f fd, CallM K C f ∧ Binds K fd ps [] ∧ KwI fd ps ks ∧ FnOk P w K mg base (L2.CX P w) k f fd ps sp
end
section
variable {X : Cx} {k j : Nat} {ps ks : List Str} {sp : Sp} {m x : Str} {C : Addr} {o e : Expr} {es : List Expr} {kws : List Keyword} {to tf : TE} {ta : TA} {apos pos p : Pos} {E : XK}
theorem pe_kmeX (F : KmeX X.prog X.w X.K X.mg X.base C k ps ks sp) (hr : Room j X.A) (hx : Passes (L2.CX X.prog X.w) X E)
    (he : PE X (.Name x p) tf) (ha : PA X (e :: es) ta) (hj : k ≤ j := by decide)
    (hst : starEach (e :: es) X.env = (false, eval e X.env) :: starEach es X.env := by rfl)
    (hpl : (backTo pos (starEach es X.env)).any (·.1) = false := by rfl) :
    PE X (.Call (.Name x p) (e :: es) [] pos) (tInst C sp E tf ta) := by
  obtain ⟨f, fd, M, b, _, F⟩ := F
  exact pe_inst M F (hr.mono hj) b hx he ha hst hpl
end
end L2
namespace L2
open PySem PySem.Spec PyProof.Rows
def repS (z : Str) (n : Nat) : Str := ⟨(List.replicate n z.cps).foldl (· ++ ·) #[]⟩
theorem repS_one (c n : Nat) : (repS ⟨#[c]⟩ n).cps.toList = List.replicate n c := by
  have h : ∀ (n : Nat) (acc : Array Nat), ((List.replicate n (#[c] : Array Nat)).foldl (· ++ ·) acc).toList = acc.toList ++ List.replicate n c := by
    intro n
    induction n with
    | zero => intro acc; simp
    | succ n ih =>
      intro acc
      rw [List.replicate_succ, List.foldl_cons, ih]
      simp [List.replicate_succ]
  have := h n #[]
  simpa [repS] using this
def rRepS : R2 := fun x y H Q => ∃ (z : Str) (n : Nat), x = .str z ∧ y = .int (n : Nat) ∧ 2 ≤ n ∧ n ≤ 1000000 ∧ 0 < z.length ∧ z.length ≤ 1000 ∧ z.length * n ≤ 1000000 ∧ Q (.str (repS z n)) H
theorem op_repS {X : Cx} : OpR X (binaryOp .Mult) rRepS := by
  intro pins s σ H x y v u Q I rx ry h
  obtain ⟨z, n, rfl, rfl, h1, h2, h3, h4, h5, q⟩ := h
  obtain ⟨t, rfl⟩ := rx
  obtain ⟨t', rfl⟩ := ry
  have e1 : (((n : Int) == 1) || z.length == 0) = false := by
    rw [Bool.or_eq_false_iff]
    constructor
    · simp
      omega
    · simp
      omega
  have tl : Builtin.Str.tooLong (z.length * n) = false := by
    unfold Builtin.Str.tooLong
    exact decide_eq_false (Nat.not_lt.mpr (Nat.le_trans h5 (by decide)))
  refine P.mul_str ?_ (fun _ _ => ?_) (fun _ _ => ?_) ?_
  · rw [decide_eq_false (by omega), decide_eq_false (by omega)]
    rfl
  · have : ((2 : Int) ^ 63 - 1) / n ≥ 1000 := by
      refine (Int.le_ediv_iff_mul_le (by omega)).mpr ?_
      omega
    omega
  · rw [Int.toNat_natCast]
    exact tl
  · rw [if_neg (by omega), e1]
    rw [if_neg (by decide), Int.toNat_natCast]
    refine ⟨?_, .str (repS z n), H, I.tok _, ⟨_, rfl⟩, q⟩
    have hl : ∀ (n : Nat) (acc : Array Nat), ((List.replicate n z.cps).foldl (· ++ ·) acc).size = acc.size + z.cps.size * n := by
      intro n
      induction n with
      | zero => intro acc; simp
      | succ n ih =>
        intro acc
        rw [List.replicate_succ, List.foldl_cons, ih, Array.size_append, Nat.mul_succ]
        omega
    have := hl n #[]
    have e2 : (#[] : Array Nat).size = 0 := rfl
    have h5' : z.cps.size * n ≤ 1000000 := h5
    show ((List.replicate n z.cps).foldl (· ++ ·) #[]).size ≤ sizeLine
    exact Nat.le_trans (show _ ≤ 1000000 by omega) (by decide)
end L2
namespace L2
open PySem PySem.Spec PyProof.Rows
end L2
namespace L2
open PySem PySem.Spec PyProof.Rows
def noTab : Obj := { cls := .none, data := .fields #[] }
/-- what is tracked ahead of the law's call: the script, if it is new, and the tables -/
structure Ahead (P : Program) (w : World) (K : PySem.W.Frag) (h : Heap) (a : Addr) (xs : List V) (Ts : List Addr) (H : Hp) : Prop where
  tab : ∀ T ∈ Ts, H T = some (.tbl #[])
  few : ∀ b u, H b = some u → (b ∈ Ts ∧ u = .tbl #[]) ∨ (b = a ∧ ∃ o, u = .frz o (.lst xs))
  ok : HOk P w H h
  out : (H a).isSome = true → K.lookup a = none
  sq : SqL K H a xs
section
variable {P : Program} {w : World} {K : PySem.W.Frag} {h : Heap} {a : Addr} {xs : List V} {us : List Value} {Ts : List Addr} {H : Hp}
/-- only a list or a table is tracked -/
theorem Ahead.untracked (A : Ahead P w K h a xs Ts H) (hT : ∀ T ∈ Ts, h.get? T = some noTab) (ha : h.get? a = some { cls := .type "list", data := .seq us.toArray }) {b : Addr} {o : Obj}
    (e : h.get? b = some o) (n1 : ∀ vs n, o.data ≠ .seq vs n) (n2 : o.data ≠ .fields #[]) : H b = none := by
  cases q : H b with
  | none => rfl
  | some u =>
    rcases A.few b u q with ⟨hb, _⟩ | ⟨rfl, _⟩
    · have := (hT b hb).symm.trans e
      obtain rfl := Option.some.inj this
      exact absurd rfl n2
    · have := ha.symm.trans e
      obtain rfl := Option.some.inj this
      exact absurd rfl (n1 _ _)
theorem ahead_ex (KX : K.In h) (hT : ∀ T ∈ Ts, h.get? T = some noTab) (ha : h.get? a = some { cls := .type "list", data := .seq us.toArray }) (rv : Vals xs us) (hl : xs.length ≤ sizeLine) : ∃ H, Ahead P w K h a xs Ts H := by
  have naT : a ∉ Ts := fun z => by
    have := congrArg (Option.map Obj.data) ((hT a z).symm.trans ha)
    cases this
  have tOk : ∀ (H : Hp) {b : Addr}, b ∈ Ts → ObjOk P w H h b (.tbl #[]) := fun H b hb => hT b hb
  have lenV : xs.length = us.length := rv.length
  cases hk : K.lookup a with
  | some o =>
    have e := KX a o hk
    obtain rfl := Option.some.inj (ha.symm.trans e)
    refine ⟨fun b => if b ∈ Ts then some (.tbl #[]) else none, fun T hT' => if_pos hT', fun b u z => ?_, fun b u z => ?_, fun z => ?_, ?_⟩
    · by_cases hb : b ∈ Ts
      · exact .inl ⟨hb, (Option.some.inj ((if_pos hb).symm.trans z)).symm⟩
      · cases (if_neg hb).symm.trans z
    · by_cases hb : b ∈ Ts
      · obtain rfl := Option.some.inj ((if_pos hb).symm.trans z)
        exact tOk _ hb
      · cases (if_neg hb).symm.trans z
    · have : (if a ∈ Ts then some (HO.tbl #[]) else none) = none := if_neg naT
      rw [this] at z
      cases z
    · refine .inr ⟨_, us.toArray, _, hk, rfl, rfl, rfl, ?_, ?_⟩
      · rw [List.size_toArray, ← lenV]
        exact hl
      · simpa using rv
  | none =>
    refine ⟨fun b => if b = a then some (.frz { cls := .type "list", data := .seq us.toArray } (.lst xs)) else if b ∈ Ts then some (.tbl #[]) else none,
      fun T hT' => (if_neg (show ¬ T = a from fun z => naT (by rw [← z]; exact hT'))).trans (if_pos hT'), fun b u z => ?_, fun b u z => ?_, fun _ => hk, .inl (.inr ⟨_, if_pos rfl⟩)⟩
    · by_cases hb : b = a
      · exact .inr ⟨hb, _, (Option.some.inj ((if_pos hb).symm.trans z)).symm⟩
      · have z := (if_neg hb).symm.trans z
        by_cases hb2 : b ∈ Ts
        · exact .inl ⟨hb2, (Option.some.inj ((if_pos hb2).symm.trans z)).symm⟩
        · cases (if_neg hb2).symm.trans z
    · by_cases hb : b = a
      · obtain rfl := Option.some.inj ((if_pos hb).symm.trans z)
        subst hb
        exact ⟨ha, hl, us, _, rv, ha⟩
      · have z := (if_neg hb).symm.trans z
        by_cases hb2 : b ∈ Ts
        · obtain rfl := Option.some.inj ((if_pos hb2).symm.trans z)
          exact tOk _ hb2
        · cases (if_neg hb2).symm.trans z
end
/-- the law's call, its guards known, with tables -/
theorem law_callTG {P : Program} {w : World} {K : PySem.W.Frag} {mg mb : Str → Option Value} {k : Nat} {fa a : Addr} {cs : List (Addr × Addr)}
    {fd : FuncData} {x : Str} {sp : Sp} {s1 : Shared} {vs : List Value} {ns : List Int}
    (KX : K.In s1.heap) (hns : s1.heap.Ns mainGlobals mg) (hb : s1.heap.Ns builtinsNs mb)
    (hbb : ∀ y : Str, y ≠ "__name__" → mb y = bootBuiltins y) (hlim : s1.heap.NoLimit) (hg : s1.gens = #[])
    (hT : ∀ p ∈ cs, s1.heap.get? p.2 = some noTab) (nT : ∀ p ∈ cs, K.lookup p.2 = none) (hC : ∀ p ∈ cs, PySem.W.CodeHd s1.heap p.1 p.2)
    (hbm : ∃ bm ob, mg "__builtins__" = some (.ref bm) ∧ bm ≠ builtinsNs ∧ s1.heap.get? bm = some ob ∧ ob.cls = .type "module" ∧ ob.dict = some builtinsNs ∧ ob.data = .plain)
    (ha : s1.heap.get? a = some { cls := .type "list", data := .seq vs.toArray }) (hi : IntsAre vs ns)
    (hl : ns.length ≤ sizeLine) (hr : Room k callerA)
    (F : ∀ base : Heap, K.In base → base.Ns mainGlobals mg → (∀ p ∈ cs, LamX.TabB base mg p.1 p.2) → FnG P w K mg base CX0 k fa fd [x] sp)
    (hbind : ∀ (s : Shared) (u : Value), BindsTo s fd ⟨[u], []⟩ [(x, u)])
    (hsp : ∀ H : Hp, (∀ p ∈ cs, H p.2 = some (.tbl #[])) → SqL K H a (ns.map V.int) → sp [.ref a] H (fun v _ => v = .bl true) E0) :
    codeAny (model P w) callerA (.call (.ref fa) ⟨[.ref a], []⟩)
      (fun r s' => r = .ok (.ret (.bool true)) ∧ OldK s1.heap s'.heap ∧ s'.os = s1.os ∧ AllBare s'.gens) s1 := by
  have hTs : ∀ T ∈ cs.map (·.2), s1.heap.get? T = some noTab := fun T h => by
    obtain ⟨p, hp, rfl⟩ := List.mem_map.mp h
    exact hT p hp
  have mT : ∀ {p : Addr × Addr}, p ∈ cs → p.2 ∈ cs.map (·.2) := fun hp => List.mem_map.mpr ⟨_, hp, rfl⟩
  obtain ⟨H, A⟩ := ahead_ex (P := P) (w := w) KX hTs ha (vals_ints hi) (by rw [List.length_map]; exact hl)
  have un0 : ∀ {b : Addr} {o : Obj}, s1.heap.get? b = some o → (∀ us n, o.data ≠ .seq us n) → o.data ≠ .fields #[] → (hidT s1.heap H).get? b = some o :=
    fun e n1 n2 => hidT_get e (A.untracked hTs ha e n1 n2)
  have nsK : ∀ {b : Addr} {m : Str → Option Value}, s1.heap.Ns b m → (hidT s1.heap H).Ns b m := by
    rintro b m ⟨o, es, ep, e, d, r⟩
    exact ⟨o, es, ep, un0 e (fun _ _ z => by rw [d] at z; cases z) (fun z => by rw [d] at z; cases z), d, r⟩
  have KB : K.In (hidT s1.heap H) := fun b o e => by
    refine hidT_get (KX b o e) ?_
    cases q : H b with
    | none => rfl
    | some u =>
      rcases A.few b u q with ⟨hb, _⟩ | ⟨rfl, _⟩
      · obtain ⟨p, hp, rfl⟩ := List.mem_map.mp hb
        rw [nT p hp] at e
        cases e
      · rw [A.out (by rw [q]; rfl)] at e
        cases e
  have hM : Mod K mg (hidT s1.heap H) := by
    obtain ⟨mc, h1, h2⟩ := hlim
    exact ⟨KB, nsK hns, ⟨mb, nsK hb, hbb⟩, mc, nsK h1, h2⟩
  have notG : ∀ {b : Addr} {o : Obj}, s1.heap.get? b = some o → (∀ es ep, o.data ≠ .dict es ep) → b ≠ mainGlobals := fun e n z => by
    obtain ⟨o', es, ep, e', d, _⟩ := hns
    rw [z, e'] at e
    obtain rfl := Option.some.inj e
    exact n _ _ d
  have TB : ∀ p ∈ cs, LamX.TabB (hidT s1.heap H) mg p.1 p.2 := fun p hp => by
    refine ⟨?_, ?_, (notG (hT p hp) fun _ _ z => by cases z).symm⟩
    · obtain ⟨o, us, f1, f2, f3, f4, f5, f6, f7, e1, r1, r2, r3, rest⟩ := hC p hp
      refine ⟨o, us, f1, f2, f3, f4, f5, f6, f7, un0 e1 (fun _ _ z => by rw [r2] at z; cases z) (fun z => ?_), r1, r2, r3, rest⟩
      rw [r2] at z
      cases z
      simp at r3
    · obtain ⟨bm, ob, b1, b2, b3, b4, b5, b6⟩ := hbm
      have nP : bm ≠ p.2 := fun z => by
        rw [z, hT p hp] at b3
        obtain rfl := Option.some.inj b3
        cases b6
      exact ⟨bm, ob, b1, b2, notG b3 (fun _ _ z => by rw [b6] at z; cases z), nP, un0 b3 (fun _ _ z => by rw [b6] at z; cases z) (fun z => by rw [b6] at z; cases z), b4, b5, b6⟩
  have e0 : Env0 P w K mg (hidT s1.heap H) callerA [] s1 H :=
    ⟨rfl, hM, fun b o e => of_hidT e, Nat.le_of_eq (hidT_size _ _), trivial, fun b hb => absurd (show b ∈ ([] : List Addr) from hb) (by simp), A.ok, .of_eq hg⟩
  refine codeAny_mono ((F _ KB (nsK hns) TB).run callerA [] s1 H ⟨[.ref a], []⟩ [.ref a] [.ref a] _ _ rfl hr e0
    (hbind s1 (.ref a)) (.cons rfl .nil) (hsp H (fun p hp => A.tab _ (mT hp)) A.sq)) fun r s' hq => ?_
  match r, hq with
  | .error e, hq => exact hq.elim
  | .ok .next, hq => exact False.elim hq
  | .ok .brk, hq => exact False.elim hq
  | .ok .cont, hq => exact False.elim hq
  | .ok (.ret u), hq =>
    obtain ⟨v, H', os, bare, un, hok', r', q⟩ := hq
    obtain rfl : v = .bl true := q
    obtain rfl : u = Value.bool true := r'
    have kept : ∀ b o, s1.heap.get? b = some o → s'.heap.get? b = some o ∨ (b ∈ cs.map (·.2) ∧ ∃ more : Array Value, s'.heap.get? b = some { cls := .none, data := .fields more }) := fun b o e => by
      cases q : H b with
      | none => exact .inl (un.keep b o e q (fun z => absurd (show b ∈ ([] : List Addr) from z) (by simp)) (by simp))
      | some u =>
        rcases A.few b u q with ⟨hb, rfl⟩ | ⟨_, ob, rfl⟩
        · obtain ⟨more, z⟩ := un.tbls b #[] q
          exact .inr ⟨hb, _, hok' b _ z⟩
        · obtain ⟨e1, _⟩ := A.ok b _ q
          obtain ⟨e2, _⟩ := hok' b _ (un.frzs b ob _ q)
          obtain rfl := Option.some.inj (e.symm.trans e1)
          exact .inl e2
    refine ⟨rfl, ⟨fun b o e => ?_, fun b o e => ?_⟩, os, bare⟩
    · rcases kept b o e with z | ⟨hb, more, z⟩
      · exact .inl z
      · obtain ⟨p, hp, rfl⟩ := List.mem_map.mp hb
        obtain rfl := Option.some.inj (e.symm.trans (hT p hp))
        exact .inr (.inl ⟨((hC p hp).tab (hT p hp)).isCodeTable, rfl, #[], more, rfl, by rw [Array.empty_append]; exact z⟩)
    · rcases kept b o e with z | ⟨_, more, z⟩
      · exact ⟨_, z⟩
      · exact ⟨_, z⟩
/-- the def under the name x: its code object is at c, with the table at T, still empty -/
def TabOf (mg : Str → Option Value) (h : Heap) (x : Str) (c T : Addr) : Prop := ∃ f o fd, mg x = some (.ref f) ∧ h.get? f = some o ∧ o.data = .func fd ∧ fd.code = .ref c ∧ PySem.W.CodeHd h c T ∧ h.get? T = some noTab
/-- no table is among the written objects -/
def tabless (K : PySem.W.Frag) : Bool := K.all fun p => match p.2 with
  | ⟨.none, _, .fields vs, _⟩ => !(vs.size == 0)
  | _ => true
theorem lookup_mem {K : PySem.W.Frag} {b : Addr} {o : Obj} : K.lookup b = some o → (b, o) ∈ K := by
  induction K with
  | nil => intro h; cases h
  | cons p r ih =>
    obtain ⟨c, x⟩ := p
    intro h
    simp only [List.lookup] at h
    split at h
    · rename_i q
      cases h
      rw [beq_iff_eq.mp q]
      exact List.mem_cons_self
    · exact List.mem_cons_of_mem _ (ih h)
theorem tabless_none {K : PySem.W.Frag} {h : Heap} {T : Addr} (KX : K.In h) (t : tabless K = true) (e : h.get? T = some noTab) : K.lookup T = none := by
  cases q : K.lookup T with
  | none => rfl
  | some o =>
    have e1 := KX T o q
    obtain rfl := Option.some.inj (e.symm.trans e1)
    have := List.all_eq_true.mp t _ (lookup_mem q)
    cases this
theorem walk_ofTG {l : PySem.W.OpenLaw} {n k : Nat} {q : Program} {loose : List Str}
    {XP : (Str → Option Value) → Heap → Prop} {YP : World → Heap → Prop} {d : DefRec} {K : Params → PySem.W.Frag}
    {x : Str} (names : List Str) (hn : l.most = some n) (hn2 : n ≤ sizeLine) (hdf : d.params.defaults = [])
    (hrec : (names.all fun y => (recsOf q).any fun e => e.name == y) = true)
    (hr : Room k callerA) (hY : ∀ (w : World) (h : Heap), YP w h → (K w.params).In h)
    (F : ∀ (w : World) (mg : Str → Option Value) (fa : Addr) (h : Heap), (K w.params).In h → h.Ns mainGlobals mg → mg d.name = some (.ref fa) → (∀ y ∈ names, ∃ c T, TabOf mg h y c T) →
      ∃ (fd : FuncData) (cs : List (Addr × Addr)) (sp : Sp), (∀ p ∈ cs, ∃ y, TabOf mg h y p.1 p.2) ∧ (∀ p ∈ cs, (K w.params).lookup p.2 = none) ∧
        (∀ (s : Shared) (u : Value), BindsTo s fd ⟨[u], []⟩ [(x, u)]) ∧
        (∀ (H : Hp) (a : Addr) (ns : List Int), ns.length ≤ n → (∀ p ∈ cs, H p.2 = some (.tbl #[])) → SqL (K w.params) H a (ns.map V.int) → sp [.ref a] H (fun v _ => v = .bl true) E0) ∧
        ∀ base : Heap, (K w.params).In base → base.Ns mainGlobals mg → (∀ p ∈ cs, LamX.TabB base mg p.1 p.2) → FnG l.prog w (K w.params) mg base CX0 k fa fd [x] sp) :
    PySem.W.WalkO q loose XP YP l.row.toRowW d [] (fun f vs => PySem.call f vs) := by
  refine Att.attach_call hn hdf fun w s0 s1 mg mb fa o pm cd doc a vs ns G Y ho hd hcd hmg hobj hints hlen hg => ?_
  have KX := hY w _ Y
  have tabs : ∀ y ∈ names, ∃ c T, TabOf mg s1.heap y c T := fun y hy => by
    obtain ⟨dL, hm, e⟩ := List.any_eq_true.mp (List.all_eq_true.mp hrec y hy)
    obtain ⟨f, o', fd', c, T, h1, h2, h3, h4, h5, h6⟩ := G.T.tab dL hm
    rw [beq_iff_eq.mp e] at h1
    exact ⟨c, T, f, o', fd', h1, h2, h3, h4, .of h5 h6, h6.2⟩
  obtain ⟨fd, cs, sp, h1, h2, h3, h4, h5⟩ := F w mg fa _ KX G.T.g hmg tabs
  refine law_callTG KX G.T.g G.T.b G.T.builtins G.T.nolimit hg (fun p hp => ?_) h2 (fun p hp => ?_) G.T.bmain hobj hints (Nat.le_trans hlen hn2) hr h5 h3 fun H hH hS => h4 H a ns hlen hH hS
  · obtain ⟨_, _, _, _, _, _, _, _, _, e⟩ := h1 p hp
    exact e
  · obtain ⟨_, _, _, _, _, _, _, _, e, _⟩ := h1 p hp
    exact e
end L2
namespace L2
open PySem PySem.Spec PyProof.Rows
/-- an error class with one __init__, made over ValueError -/
def oexB (K : PySem.W.Frag) (C : Addr) : Bool := match K.lookup C with
  | some ⟨.type t, _, .cls cd, sl⟩ => decide (t = "type") && (cd.hasDict && (!cd.hasDel && (match cd.mro, sl.toList with
    | .ref C1 :: bm, [_, _, _, _, some (.builtin n), _] => decide (C1 = C) && (decide (n = "ValueError.__new__") &&
        PySem.HandSPX.refsVE bm)
    | _, _ => false)))
  | _ => false
def xclB (K : PySem.W.Frag) (C : Addr) : Bool :=
  decide (PySem.W.subIn K (.ref C) (.type "BaseException") = some true) &&
  (decide (PySem.W.findIn K (.ref C) "__getattribute__" = some (some (.builtin "BaseException.__getattribute__"))) &&
  (decide (PySem.W.findIn K (.ref C) "__getattr__" = some none) && (PySem.W.hasDictIn K C &&
  ((PySem.W.clsIn K C).isSome &&
  (decide (PySem.W.findIn K (.ref C) "__class__" = some (some (.builtin "object.__class__"))) &&
  (decide (PySem.W.specialIn K (.builtin "object.__class__") "__get__" = some (some (.builtin "getset_descriptor.__get__"))) &&
  (decide (PySem.W.takesIn K (.builtin "object.__class__") = some true) &&
  decide (PySem.W.mroIn K C (.type "object") = some true))))))))
def restB (K : PySem.W.Frag) (C : Addr) : Bool :=
  decide (PySem.W.findIn K (.ref C) "__setattr__" = some (some (.builtin "object.__setattr__"))) &&
  (decide (PySem.W.typeIn K (.ref C) = some (.type "type")) && PySem.W.keepIn K (.ref C))
section
variable {K : PySem.W.Frag} {mg : Str → Option Value} {h : Heap} {C : Addr}
theorem xcl_of (b : xclB K C = true) : XCl K C := by
  unfold xclB at b
  simp only [Bool.and_eq_true, decide_eq_true_eq] at b
  obtain ⟨b2, b5, b6, b7, b8, b9, b10, b11, b12⟩ := b
  exact ⟨b5, b6, b2, b7, b8, b9, b10, b11, b12⟩
theorem oexC_of (a : oexB K C = true) (x : xclB K C = true) (b : restB K C = true) : OexC K C := by
  have x := xcl_of x
  unfold restB at b
  simp only [Bool.and_eq_true, decide_eq_true_eq] at b
  obtain ⟨b1, b3, b4⟩ := b
  refine ⟨?_, b1, x.ex, b3, b4⟩
  unfold oexB at a
  split at a
  · rename_i t dd cd sl ho
    simp only [Bool.and_eq_true, decide_eq_true_eq, Bool.not_eq_true'] at a
    obtain ⟨a1, a2, a3, a4⟩ := a
    split at a4
    · rename_i C1 bm k0 k1 k2 k3 n k5 hm hs
      simp only [Bool.and_eq_true, decide_eq_true_eq] at a4
      obtain ⟨a5, a6, a7⟩ := a4
      subst a1 a5 a6
      obtain ⟨nm, bs, mro, ns, qn, hd, sn, sub, ab, col, del⟩ := cd
      dsimp only at hm a2 a3
      subst hm a2 a3
      obtain ⟨ls⟩ := sl
      dsimp only at hs
      subst hs
      exact ⟨nm, qn, ns, bs, bm, sn, sub, ab, col, dd, k0, k1, k2, k3, k5, ho, a7⟩
    · cases a4
  · cases a
/-- an error class under its name, with such fields -/
def errB (K : PySem.W.Frag) (x : Str) (fs : List Str) : Bool := match PySem.W.nsIn K mainGlobals x with
  | some (some (.ref C)) => oexB K C && (xclB K C && (restB K C && fs.all fun f => decide (PySem.W.findIn K (.ref C) f = some none)))
  | _ => false
/-- an error class, told apart -/
def exB (K : PySem.W.Frag) (fs : List Str) (x : Str) : Bool := match PySem.W.nsIn K mainGlobals x with
  | some (some (.ref C)) => xclB K C && fs.all fun f => decide (PySem.W.findIn K (.ref C) f = some none)
  | _ => false
theorem errK_of {x : Str} {fs : List Str} (X : K.In h) (G : h.Ns mainGlobals mg) (c : errB K x fs = true) : ErrK K mg x fs := by
  unfold errB at c
  split at c
  · rename_i C hC
    simp only [Bool.and_eq_true, List.all_eq_true, decide_eq_true_eq] at c
    obtain ⟨c1, c2, c3, c4⟩ := c
    have e := PySem.W.mg_of X G hC
    have ea := adr_of e
    exact ⟨by rw [ea]; exact e, by rw [ea]; exact oexC_of c1 c2 c3, by rw [ea]; exact xcl_of c2, by rw [ea]; exact c4⟩
  · cases c
theorem ex_of {x : Str} {fs : List Str} (X : K.In h) (G : h.Ns mainGlobals mg) (c : exB K fs x = true) :
    mg x = some (.ref (adr mg x)) ∧ XCl K (adr mg x) ∧ ∀ f ∈ fs, PySem.W.findIn K (.ref (adr mg x)) f = some none := by
  unfold exB at c
  split at c
  · rename_i C hC
    simp only [Bool.and_eq_true, List.all_eq_true, decide_eq_true_eq] at c
    have e := PySem.W.mg_of X G hC
    have ea := adr_of e
    rw [ea]
    exact ⟨e, xcl_of c.1, c.2⟩
  · cases c
def kitNB (K : PySem.W.Frag) (x : Str) (c : Value) (b : Bool) : Bool := match PySem.W.nsIn K mainGlobals x with
  | some (some (.ref C)) => decide (PySem.W.kitOne K (.ref C) c = some b)
  | _ => false
def kitNB2 (K : PySem.W.Frag) (x y : Str) (b : Bool) : Bool := match PySem.W.nsIn K mainGlobals y with
  | some (some (.ref C)) => kitNB K x (.ref C) b
  | _ => false
def exmB2 (K : PySem.W.Frag) (x y : Str) (b : Bool) : Bool := match PySem.W.nsIn K mainGlobals y with
  | some (some (.ref C)) => (match PySem.W.nsIn K mainGlobals x with
    | some (some (.ref C2)) => decide (PySem.W.exmOne K (.ref C2) (.ref C) = some b)
    | _ => false)
  | _ => false
theorem kit_of1 {x : Str} {c : Value} {b : Bool} (X : K.In h) (G : h.Ns mainGlobals mg) (e : kitNB K x c b = true) :
    PySem.W.kitOne K (.ref (adr mg x)) c = some b := by
  unfold kitNB at e
  split at e
  · rename_i C hC
    rw [adr_of (PySem.W.mg_of X G hC)]
    simpa using e
  · cases e
theorem kit_of2 {x y : Str} {b : Bool} (X : K.In h) (G : h.Ns mainGlobals mg) (e : kitNB2 K x y b = true) :
    PySem.W.kitOne K (.ref (adr mg x)) (.ref (adr mg y)) = some b := by
  unfold kitNB2 at e
  split at e
  · rename_i C hC
    rw [adr_of (PySem.W.mg_of X G hC)]
    exact kit_of1 X G e
  · cases e
theorem exm_of2 {x y : Str} {b : Bool} (X : K.In h) (G : h.Ns mainGlobals mg) (e : exmB2 K x y b = true) :
    PySem.W.exmOne K (.ref (adr mg x)) (.ref (adr mg y)) = some b := by
  unfold exmB2 at e
  split at e
  · rename_i C hC
    split at e
    · rename_i C2 hC2
      rw [adr_of (PySem.W.mg_of X G hC), adr_of (PySem.W.mg_of X G hC2)]
      simpa using e
    · cases e
  · cases e
/-- an own class with attributes alone, some of them named -/
def ownB (K : PySem.W.Frag) (fs : List Str) (C : Addr) : Bool :=
  PySem.W.plainGet K C Str.empty && (PySem.W.hasDictIn K C && (PySem.W.plainOver K C &&
  (decide (PySem.W.findIn K (.ref C) "__setattr__" = some (some (.builtin "object.__setattr__"))) &&
  ((fs.all fun f => decide (PySem.W.findIn K (.ref C) f = some none)) && (PySem.W.makesIn K C && PySem.W.keepIn K (.ref C))))))
theorem own_of {fs : List Str} (c : ownB K fs C = true) : Cls K C ∧ (∀ f ∈ fs, NoAttr K C f) ∧ PySem.W.makesIn K C = true ∧ PySem.W.keepIn K (.ref C) = true := by
  unfold ownB at c
  simp only [Bool.and_eq_true, List.all_eq_true, decide_eq_true_eq] at c
  obtain ⟨c1, c2, c3, c4, c5, c6, c7⟩ := c
  exact ⟨⟨c1, c2, c3, c4⟩, c5, c6, c7⟩
/-- a def of a class, no default -/
theorem mdef {x q : Str} {st : Stmt} {f : Addr} {od an : Option Addr} {sl : Array (Option Value)} {oc kV dc pm cd ct : Value}
    (l : K.lookup f = some ⟨oc, od, .func (PySem.W.fnOf x q (defArgs st) (defBody st) (defScope st) .none kV dc pm an cd ct), sl⟩)
    (c : PySem.W.codeIn K cd q = true) (k : PySem.W.keepIn K (.ref f) = true) :
    MD K x q st [] f (PySem.W.fnOf x q (defArgs st) (defBody st) (defScope st) .none kV dc pm an cd ct) :=
  ⟨⟨oc, od, .none, kV, dc, pm, an, cd, ct, sl, rfl, l, c, .inl ⟨rfl, rfl⟩, .inl rfl⟩, k⟩
/-- the code object of the def under x is the one whose table is told -/
theorem tab_code {x : Str} {st : Stmt} {f c T : Addr} {od an : Option Addr} {sl : Array (Option Value)} {oc kV dc pm cd ct : Value} (X : K.In h) (G : h.Ns mainGlobals mg)
    (a : PySem.W.nsIn K mainGlobals x = some (some (.ref f)))
    (l : K.lookup f = some ⟨oc, od, .func (PySem.W.fnOf x x (defArgs st) (defBody st) (defScope st) .none kV dc pm an cd ct), sl⟩) (t : TabOf mg h x c T) : cd = .ref c := by
  obtain ⟨f', o, fd, h1, h2, h3, h4, _⟩ := t
  obtain rfl : f = f' := Value.ref.inj (Option.some.inj ((PySem.W.mg_of X G a).symm.trans h1))
  obtain rfl := Option.some.inj ((X _ _ l).symm.trans h2)
  obtain rfl := Data.func.inj h3
  exact h4
theorem funC_mk {x : Str} {st : Stmt} {f c : Addr} {od an : Option Addr} {sl : Array (Option Value)} {oc kV dc pm cd ct : Value}
    (l : K.lookup f = some ⟨oc, od, .func (PySem.W.fnOf x x (defArgs st) (defBody st) (defScope st) .none kV dc pm an cd ct), sl⟩)
    (hc : PySem.W.codeIn K cd x = true) (k : PySem.W.keepIn K (.ref f) = true) (e : cd = .ref c) :
    FunC K x x st f (PySem.W.fnOf x x (defArgs st) (defBody st) (defScope st) .none kV dc pm an cd ct) (.ref c) := by
  subst e
  exact ⟨⟨oc, od, kV, dc, pm, an, ct, sl, rfl, l, hc⟩, k⟩
/-- where the table of the def under x stands, by the written part -/
def tabAt (K : PySem.W.Frag) (x : Str) : Option Addr := match PySem.W.nsIn K mainGlobals x with
  | some (some (.ref f)) => (match K.lookup f with
    | some ⟨_, _, .func fd, _⟩ => (match fd.code with
      | .ref c => (match K.lookup c with
        | some ⟨_, _, .fields vs, _⟩ => (match (vs[11]? : Option Value) with
          | some (.ref T) => some T
          | _ => none)
        | _ => none)
      | _ => none)
    | _ => none)
  | _ => none
theorem tabAt_is {x : Str} {c T T' : Addr} (X : K.In h) (G : h.Ns mainGlobals mg) (t : TabOf mg h x c T) (e : tabAt K x = some T') : T = T' := by
  obtain ⟨f', o, fd, h1, h2, h3, h4, ⟨o', us, _, _, _, _, _, _, _, g1, g2, g3, g4, _⟩, _⟩ := t
  unfold tabAt at e
  split at e
  · rename_i f hf
    obtain rfl : f = f' := Value.ref.inj (Option.some.inj ((PySem.W.mg_of X G hf).symm.trans h1))
    split at e
    · rename_i oc dd fd2 sl hl
      obtain rfl := Option.some.inj ((X _ _ hl).symm.trans h2)
      obtain rfl := Data.func.inj h3
      rw [h4] at e
      dsimp only at e
      split at e
      · rename_i oc2 dd2 vs sl2 hc
        obtain rfl := Option.some.inj ((X _ _ hc).symm.trans g1)
        obtain rfl := Data.fields.inj g3
        rw [g4] at e
        exact Option.some.inj e
      · cases e
    · cases e
  · cases e
end
end L2
namespace L2
open PySem PySem.Spec PyProof.Rows
end L2
namespace L2
open PySem PySem.Spec PyProof.Rows
end L2
namespace L2
open PySem PySem.Spec PyProof.Rows
end L2
namespace L2
open PySem PySem.Spec PyProof.Rows
end L2
namespace L2
open PySem PySem.Spec PyProof.Rows
end L2
namespace L2
open PySem PySem.Spec PyProof.Rows
open PySem.AutoSeq1 (wpAny_loadPart')
end L2
namespace L2
open PySem PySem.Spec PyProof.Rows
end L2
namespace L2
open PySem PySem.Spec PyProof.Rows PySem.SeqAt PySem.MeetsSeq
end L2
namespace L2
open PySem PySem.Spec PyProof.Rows
theorem vals_rev : ∀ {vs : List V} {us : List Value}, Vals vs us → Vals vs.reverse us.reverse
  | _, _, .nil => .nil
  | _, _, .cons h t => by
    rw [List.reverse_cons, List.reverse_cons]
    exact (vals_rev t).append (.cons h .nil)
end L2
namespace L2
open PySem PySem.Spec PyProof.Rows
/-- how keywords in the contrary order bind -/
def KwB (fd : FuncData) (ps ks : List Str) : Prop := ∀ (s : Shared) (ws : List Value), ws.length = ks.length → BindsTo s fd ⟨[], ks.zip ws⟩ (ps.zip ws.reverse)
/-- a def of the top, called by keywords too -/
def OwnK (K : PySem.W.Frag) (mg : Str → Option Value) (x : Str) (st : Stmt) (ps ks : List Str) : Prop :=
  ∃ f fd, mg x = some (.ref f) ∧ Fun K x x st f fd ∧ Binds K fd ps [] ∧ KwB fd ps ks
def KfV (P : Program) (w : World) (K : PySem.W.Frag) (mg : Str → Option Value) (base : Heap) (k : Nat) (x : Str) (ps ks : List Str) (sp : Sp) : Prop :=
  ∃ f fd, mg x = some (.ref f) ∧ PySem.W.keepIn K (.ref f) = true ∧ KwB fd ps ks ∧ FnOk P w K mg base CX0 k f fd ps sp
section
variable {P : Program} {w : World} {K : PySem.W.Frag} {mg : Str → Option Value} {base : Heap}
theorem OwnK.okF {x : Str} {st : Stmt} {N ps ks : List Str} {k : Nat} {sp : Sp} (O : OwnK K mg x st ps ks)
    (S : FnScope N ps (defScope st)) (len : ∀ vs H Q E, sp vs H Q E → vs.length = ps.length)
    (hbody : ∀ (f : Addr) (cdv : Value) (A : Around) (outer : List Env) (s : Shared) (H : Hp) (vs : List V) (Q : VK)
      (E : XK), True →
      Room k (A.deeper (envOfC x (defScope st) s.heap.objs.size f cdv)) → sp vs H Q E →
      ∃ t, PSs (cxOf CX0 P w K mg base N x (defScope st) f cdv A outer s H E).nox (defBody st) t ∧
        t { nx := fun _ H' => Q .non H', rt := Q } (start N vs) H) :
    Kf P w K mg base (k + 1) x ps sp ∧ KfV P w K mg base (k + 1) x ps ks sp := by
  obtain ⟨f, fd, hm, F, b, bk⟩ := O
  have G := F.ok (P := P) (w := w) (mg := mg) (base := base) S len fun cdv A outer s H vs Q E hr h => hbody f cdv A outer s H vs Q E trivial hr h
  exact ⟨⟨f, fd, hm, F.kp, b, G⟩, ⟨f, fd, hm, F.kp, bk, G⟩⟩
end
end L2
namespace L2
open PySem PySem.Spec PyProof.Rows
def KfX (P : Program) (w : World) (K : PySem.W.Frag) (mg : Str → Option Value) (base : Heap) (k : Nat) (x : Str) (ps : List Str) (sp : Sp) : Prop :=
  ∃ f fd, mg x = some (.ref f) ∧ PySem.W.keepIn K (.ref f) = true ∧ Binds K fd ps [] ∧ FnOk P w K mg base (L2.CX P w) k f fd ps sp
def KfXV (P : Program) (w : World) (K : PySem.W.Frag) (mg : Str → Option Value) (base : Heap) (k : Nat) (x : Str) (ps ks : List Str) (sp : Sp) : Prop :=
  ∃ f fd, mg x = some (.ref f) ∧ PySem.W.keepIn K (.ref f) = true ∧ KwB fd ps ks ∧ FnOk P w K mg base (L2.CX P w) k f fd ps sp
section
variable {P : Program} {w : World} {K : PySem.W.Frag} {mg : Str → Option Value} {base : Heap}
theorem OwnD.okX {x : Str} {st : Stmt} {N ps : List Str} {k : Nat} {sp : Sp} (O : OwnD K mg x st ps)
    (S : FnScope N ps (defScope st)) (len : ∀ vs H Q E, sp vs H Q E → vs.length = ps.length)
    (hbody : ∀ (f : Addr) (cdv : Value) (A : Around) (outer : List Env) (s : Shared) (H : Hp) (vs : List V) (Q : VK)
      (E : XK), True →
      Room k (A.deeper (envOfC x (defScope st) s.heap.objs.size f cdv)) → sp vs H Q E →
      ∃ t, PSs (cxOf (L2.CX P w) P w K mg base N x (defScope st) f cdv A outer s H E) (defBody st) t ∧
        t { nx := fun _ H' => Q .non H', rt := Q } (start N vs) H) :
    KfX P w K mg base (k + 1) x ps sp := by
  obtain ⟨f, fd, hm, F, b⟩ := O
  exact ⟨f, fd, hm, F.kp, b, F.okX S len fun cdv A outer s H vs Q E hr h => hbody f cdv A outer s H vs Q E trivial hr h⟩
theorem OwnK.okX {x : Str} {st : Stmt} {N ps ks : List Str} {k : Nat} {sp : Sp} (O : OwnK K mg x st ps ks)
    (S : FnScope N ps (defScope st)) (len : ∀ vs H Q E, sp vs H Q E → vs.length = ps.length)
    (hbody : ∀ (f : Addr) (cdv : Value) (A : Around) (outer : List Env) (s : Shared) (H : Hp) (vs : List V) (Q : VK)
      (E : XK), True →
      Room k (A.deeper (envOfC x (defScope st) s.heap.objs.size f cdv)) → sp vs H Q E →
      ∃ t, PSs (cxOf (L2.CX P w) P w K mg base N x (defScope st) f cdv A outer s H E) (defBody st) t ∧
        t { nx := fun _ H' => Q .non H', rt := Q } (start N vs) H) :
    KfX P w K mg base (k + 1) x ps sp ∧ KfXV P w K mg base (k + 1) x ps ks sp := by
  obtain ⟨f, fd, hm, F, b, bk⟩ := O
  have G := F.okX (P := P) (w := w) (mg := mg) (base := base) S len fun cdv A outer s H vs Q E hr h => hbody f cdv A outer s H vs Q E trivial hr h
  exact ⟨⟨f, fd, hm, F.kp, b, G⟩, ⟨f, fd, hm, F.kp, bk, G⟩⟩
end
def tCallVX (sp : Sp) (E : XK) (t : TA) : TE := fun σ H Q => t σ H fun vs H1 => sp vs.reverse H1 Q E
section
variable {X : Cx} {k j : Nat} {ps ks : List Str} {sp : Sp} {x : Str} {p pos : Pos} {e : Expr} {es : List Expr} {kws : List Keyword} {t : TA} {E : XK}
theorem pe_kfX (F : KfX X.prog X.w X.K X.mg X.base k x ps sp) (hr : Room j X.A) (hx : Passes (L2.CX X.prog X.w) X E)
    (hg : Gl X x) (ha : PA X (e :: es) t) (hj : k ≤ j := by decide)
    (hdb : (x == ("__debug__" : Str)) = false := by decide)
    (he : starEach (e :: es) X.env = (false, eval e X.env) :: starEach es X.env := by rfl)
    (hpl : (backTo pos (starEach es X.env)).any (·.1) = false := by rfl) :
    PE X (.Call (.Name x p) (e :: es) [] pos) (tCall sp [] E t) := by
  obtain ⟨f, fd, hm, hk, hb, G⟩ := F
  exact pe_call G (hr.mono hj) hg hm hk hb .nil hx ha hdb he hpl
theorem pe_kfXV (F : KfXV X.prog X.w X.K X.mg X.base k x ps ks sp) (hr : Room j X.A) (hx : Passes (L2.CX X.prog X.w) X E) (hg : Gl X x) (hkw : PK X kws t)
    (hl : ∀ vs H Q E, sp vs H Q E → vs.length = ks.length) (hj : k ≤ j := by decide) (hdb : (x == ("__debug__" : Str)) = false := by decide)
    (hks : (backToKw pos (keywordEach kws X.env)).filterMap (·.1) = ks := by rfl)
    (hall : (backToKw pos (keywordEach kws X.env)).all (·.1.isSome) = true := by rfl)
    (hpl : ((backTo pos (starEach [] X.env)).any (·.1) || (backToKw pos (keywordEach kws X.env)).any (·.1.isNone)) = false := by rfl) :
    PE X (.Call (.Name x p) [] kws pos) (tCallVX sp E t) := by
  obtain ⟨f, fd, hm, hk, hb, F⟩ := F
  have hr := hr.mono hj
  refine ⟨fun pins s σ H Q I h => ?_⟩
  refine wpAny_Call_Name_kw (ld_glob I hg hm ?_ hdb)
  refine PySem.W.callWith_KW0 (first := []) (h₀ := X.base) I.ok.mod.kin hk hall (thn (hkw.run pos pins s σ H _ I h) fun us s2 ⟨vs, H2, I2, r2, hsp⟩ => ⟨I2.kIn, ?_⟩) hpl
  rw [hks]
  have hn := hl _ _ _ _ hsp
  rw [List.length_reverse] at hn
  refine wpAny_call (codeAny_mono (F.run X.A X.stack s2 H2 ⟨[], ks.zip us⟩ us.reverse vs.reverse Q E hr I2.env0 (hb s2 us (by
    rw [← Paired.length r2]
    exact hn)) (vals_rev r2) hsp) fun r s' hq => ?_)
  cases r with
  | error e => exact hx pins σ H2 s2 e s' I2 hq
  | ok fl =>
    cases fl with
    | ret u => exact I2.after hq
    | next => exact False.elim hq
    | brk => exact False.elim hq
    | cont => exact False.elim hq
end
/-- isinstance(e, (A, ..)), e kept -/
def rIswT (K : PySem.W.Frag) : List V → Hp → VK → Prop := fun xs H Q =>
  ∃ (a C dx : Addr) (fs : List (Str × V)) (tp : Addr) (cs : List V) (us : List Value) (b : Bool), xs = [.ref a, .ref tp] ∧ XCl K C ∧
    H a = some (exc a C (some dx)) ∧ H dx = some (.xd fs) ∧ H tp = some (.tup cs) ∧ Paired ClsV cs us ∧ PySem.W.kitAny K (.ref C) us = some b ∧ Q (.bl b) H
theorem call_iswT {X : Cx} : CallR X (.builtin "isinstance") (rIswT X.K) := by
  intro pins s σ H xs us Q I r h
  obtain ⟨a, C, dx, fs, tp, cs, ws, b, rfl, T, ha, hd, hT, k, e, q⟩ := h
  obtain ⟨u1, u2, rfl, r1, r2⟩ := vals2 r
  obtain rfl : u1 = Value.ref a := r1
  cases (show u2 = Value.ref tp from r2)
  obtain ⟨oe, od, _, J, _⟩ := inst_exc I.hok ha hd
  obtain ⟨_, its, rv, o, h1, h2, n, h3⟩ := (show ObjOk X.prog X.w H s.heap tp (.tup cs) from I.hok tp _ hT)
  have e3 := ClsV.all k rv
  subst e3
  obtain ⟨oc, od2, dt, sl⟩ := o
  simp only at h2 h3
  subst h2 h3
  exact PySem.W.kia_tup (PySem.W.kitx_exc T.ci T.ga T.gg T.ex T.ca T.cn T.ct T.co) I.kIn J h1 e (fun z => nomatch z)
    fun tk => ⟨.bl b, H, I.tok tk, rfl, q⟩
end L2
namespace L2
open PySem PySem.Spec PyProof.Rows HT
end L2
namespace L2
open PySem PySem.Spec PyProof.Rows
/-- each item of a list with a sign of a text in a new pair -/
def ItzS (K : PySem.W.Frag) (a : Addr) (z : Str) : It :=
  ⟨fun i H => ∃ (xs : List V) (x : V), SqL K H a xs ∧ xs[i]? = some x ∧ i < z.cps.size,
    fun i H v H' => ∃ T x c, v = .ref T ∧ H T = none ∧ H' = upd H T (.tup [x, .str ⟨#[c]⟩]) ∧ (∀ xs, SqL K H a xs → xs[i]? = some x) ∧ z.cps[i]? = some c,
    fun i H => ∃ xs : List V, SqL K H a xs ∧ i ≤ xs.length ∧ i = z.cps.size⟩
structure ZipL (z TI TO i1 i2 a : Addr) : Prop where
  S : ZipSep2 z TI TO i1 i2 [i1, a] [i2]
  ai : a ≠ i1
theorem turn_zipS {P : Program} {w : World} {K : PySem.W.Frag} {elts : List Expr} {kk : Nat} {tpos : Pos} {a zz TI TO i1 i2 : Addr} (z : Str) (t : Tok) (D : ZipL zz TI TO i1 i2 a) :
    Turn P w K (.Tuple elts kk tpos) (ItzS K a z) [zz, TI, TO, i1, i2] zz (fun i h => IsZip h zz TI TO .none ∧ IsTupOf2 h TI (.ref i1) (.ref i2) ∧ (∃ x y, IsTupOf2 h TO x y) ∧ h.IsListIter i1 a i ∧ h.IsStrIter i2 (strIterType z) z t i) where
  mem := by simp
  obj := fun i h st c hc => by
    obtain ⟨hz, hTI, ⟨x, y, hTO⟩, ⟨o1, e1, _, d1⟩, ⟨o2, e2, _, d2⟩⟩ := st
    have e' : c = zz ∨ c = TI ∨ c = TO ∨ c = i1 ∨ c = i2 := by simpa using hc
    rcases e' with q | q | q | q | q
    · rw [q]; exact ⟨_, hz, fun v q => nomatch q⟩
    · rw [q]; exact ⟨_, hTI, fun v q => nomatch q⟩
    · rw [q]; exact ⟨_, hTO, fun v q => nomatch q⟩
    · rw [q]; exact ⟨o1, e1, fun v q => by rw [d1] at q; cases q⟩
    · rw [q]; exact ⟨o2, e2, fun v q => by rw [d2] at q; cases q⟩
  keep := fun i h h' st k => by
    obtain ⟨hz, hTI, ⟨x, y, hTO⟩, h1, ⟨o2, e2, r2⟩⟩ := st
    exact ⟨k zz (by simp) _ hz, k TI (by simp) _ hTI, ⟨x, y, k TO (by simp) _ hTO⟩, h1.at fun o q => k i1 (by simp) o q, ⟨o2, k i2 (by simp) o2 e2, r2⟩⟩
  item := by
    intro X hP hw hK hc i pins s σ H E I hf st hg
    subst hP hw hK
    obtain ⟨hz, hTI, ⟨x0, y0, hTO⟩, h1, h2⟩ := st
    obtain ⟨xs, x, hqx, hx, hlt⟩ := hg
    obtain ⟨its, rv, p, _⟩ := I.list hqx
    obtain ⟨u, hu, ru⟩ := rv.get hx
    have hi1 : i < its.toArray.size := by
      rw [List.size_toArray]
      rcases Nat.lt_or_ge i its.length with h | h
      · exact h
      · rw [List.getElem?_eq_none h] at hu
        cases hu
    have hzl : zz < s.heap.objs.size := Heap.lt_size hz
    have hh : X.A.handled = none := I.ok.hd hc
    refine wpAny_pyNext_zipD2_item D.S (Draws.list (by exact hh) i1 a D.ai its.toArray) (Draws.text (by exact hh) i2 z t) hz hTI hTO ⟨h1, p.isList⟩ h2 hi1 hlt fun u1 u2 h' tk y1 y2 z' TO' h1' h2' hT hsz hk => ?_
    obtain ⟨c, tu, hcc, rfl⟩ := y2
    have hu1 : u1 = u := by
      have y1' : its[i]? = some u1 := by simpa using y1
      rw [hu] at y1'
      exact (Option.some.inj y1').symm
    subst hu1
    refine ⟨_, rfl, wpAny_letOwnedTupleGo_zip (s := { s with heap := h', toks := tk }) z' fun h'' z'' sb => ?_⟩
    have hT2 : h''.get? s.heap.objs.size = some { cls := .type "tuple", data := .seq #[u1, .str ⟨#[c]⟩ tu] } := (sb.2 _ (Nat.ne_of_gt hzl)).trans hT
    have new : ObjOk X.prog X.w (upd H s.heap.objs.size (.tup [x, .str ⟨#[c]⟩])) h'' s.heap.objs.size (.tup [x, .str ⟨#[c]⟩]) :=
      ⟨by show 2 ≤ sizeLine; decide, [u1, .str ⟨#[c]⟩ tu], .cons ru (.cons ⟨_, rfl⟩ .nil), ⟨_, hT2, rfl, _, rfl⟩⟩
    have I1 : Inv X pins σ (upd H s.heap.objs.size (.tup [x, .str ⟨#[c]⟩])) { s with heap := h'', toks := tk } :=
      I.turnedNew (ch := [zz, TI, TO, i1, i2]) (fun c o hb q => (sb.2 c (fun q' => hb (by simp [q']))).trans (hk c o (fun q' => hb (by simp [q'])) (fun q' => hb (by simp [q'])) (fun q' => hb (by simp [q'])) (fun q' => hb (by simp [q'])) q)) hf (Nat.le_refl _) new
    refine ⟨.ref s.heap.objs.size, _, I1, rfl, ⟨_, x, c, rfl, I.hok.fresh (Nat.le_refl _), rfl, fun l hl => ?_, hcc⟩, ⟨z'', ?_, ⟨u1, .str ⟨#[c]⟩ tu, ?_⟩, ?_, ?_⟩, fun c hcm => ?_⟩
    · rw [I.list_inj hl hqx]
      exact hx
    · exact (sb.2 _ D.S.TIz).trans (hk _ _ D.S.TIz D.S.TITO D.S.TIi1 D.S.TIi2 hTI)
    · exact (sb.2 _ D.S.TOz).trans TO'
    · exact h1'.1.at fun o q => (sb.2 _ (Ne.symm D.S.zi1)).trans q
    · obtain ⟨o, ho, r⟩ := h2'
      exact ⟨o, (sb.2 _ (Ne.symm D.S.zi2)).trans ho, r⟩
    · have hlt : c < s.heap.objs.size := by
        have e' : c = zz ∨ c = TI ∨ c = TO ∨ c = i1 ∨ c = i2 := by simpa using hcm
        rcases e' with q | q | q | q | q
        · rw [q]; exact hzl
        · rw [q]; exact Heap.lt_size hTI
        · rw [q]; exact Heap.lt_size hTO
        · rw [q]; obtain ⟨_, e1, _⟩ := h1; exact Heap.lt_size e1
        · rw [q]; obtain ⟨_, e2, _⟩ := h2; exact Heap.lt_size e2
      rw [upd_ne (Nat.ne_of_lt hlt)]
      exact (hf c hcm).1
  done := by
    intro X hP hw hK hc i pins s σ H E I hf st hg
    subst hP hw hK
    obtain ⟨hz, hTI, ⟨x0, y0, hTO⟩, h1, h2⟩ := st
    obtain ⟨xs, hqx, hle, he⟩ := hg
    obtain ⟨its, rv, p, _⟩ := I.list hqx
    have l1 := rv.length
    have hh : X.A.handled = none := I.ok.hd hc
    exact wpAny_pyNext_zipD2_end D.S (Draws.list (by exact hh) i1 a D.ai its.toArray) (Draws.text (by exact hh) i2 z t) hz hTI hTO ⟨h1, p.isList⟩ h2 (by rw [List.size_toArray]; omega) (by omega) (.inr he) fun h' tk hk => ⟨rfl, I.turnedL (ch := [zz, TI, TO, i1, i2]) (fun c o hb q =>
      hk c o (fun q' => hb (by simp [q'])) (fun q' => hb (by simp [q'])) (fun q' => hb (by simp [q'])) (fun q' => hb (by simp [q'])) q) hf⟩
  self := fun A i s Q E st h => wpAny_pyIter_zip st.1 h
theorem zipL_of {n a : Nat} (la : a < n) : ZipL (n + 4) (n + 2) (n + 3) n (n + 1) a := by
  have n0 : ∀ k : Nat, n + (k + 1) ≠ n := fun k => by omega
  have n1 : ∀ k : Nat, n + k ≠ a := fun k => by omega
  have n2 : n ≠ a := by omega
  have n3 : a ≠ n := by omega
  have n4 : ∀ i j : Nat, i ≠ j → n + i ≠ n + j := fun i j h => by omega
  have mem2 : ∀ {x : Nat}, x ≠ n → x ≠ a → x ∉ ([n, a] : List Nat) := fun h1 h2 h => by
    simp only [List.mem_cons, List.not_mem_nil, or_false] at h
    exact h.elim h1 h2
  have mem1 : ∀ {x : Nat}, x ≠ n + 1 → x ∉ ([n + 1] : List Nat) := fun h1 h => h1 (List.mem_singleton.mp h)
  exact ⟨⟨n4 2 4 (by decide), n4 3 4 (by decide), n4 2 3 (by decide), n0 1, List.mem_cons_self, mem2 (n0 3) (n1 4), mem2 (n0 2) (n1 3), n4 2 1 (by decide), List.mem_cons_self, mem1 (n4 4 1 (by decide)), mem1 (n4 3 1 (by decide)), mem1 (Ne.symm (n0 0)), mem2 (n0 0) (n1 1)⟩, n3⟩
def iZipS (K : PySem.W.Frag) (ta : TA) : TI := fun σ H R => ta σ H fun vs H1 => ∃ a z xs, vs = [.ref a, .str z] ∧ SqL K H1 a xs ∧ R (ItzS K a z) H1
theorem pi_zipS {X : Cx} {e e2 : Expr} {ta : TA} {p pos tpos : Pos} {elts : List Expr} {kk : Nat} (hg : Gl X "zip") (hm : X.mg "zip" = none) (ha : PA X [e, e2] ta)
    (hs : starEach [e, e2] X.env = (false, eval e X.env) :: starEach [e2] X.env := by rfl) (hpl : (backTo pos (starEach [e2] X.env)).any (·.1) = false := by rfl) :
    PI X (.Tuple elts kk tpos) (.Call (.Name "zip" p) [e, e2] [] pos) (iZipS X.K ta) := by
  refine ⟨fun pins s σ H R I h => ?_⟩
  refine Call_ (ld_blt I hg hm PyProof.Rows.boot_zip (PyProof.Rows.callWith_type1 (thn (ha.run pos pins s σ H _ I h) fun us s1 ⟨vs, H1, I1, r1, q1⟩ => ?_) hs hpl))
  obtain ⟨a, z, xs, ex, hqx, q⟩ := q1
  subst ex
  obtain ⟨u1, u2, rfl, r, r'⟩ := vals2 r1
  obtain rfl : u1 = Value.ref a := r
  obtain ⟨t, rfl⟩ := r'
  have fresh5 : ∀ c, c ∈ [s1.heap.objs.size + 4, s1.heap.objs.size + 2, s1.heap.objs.size + 3, s1.heap.objs.size, s1.heap.objs.size + 1] → FpOk X pins H1 c := fun c hcm => by
    have e' : c = s1.heap.objs.size + 4 ∨ c = s1.heap.objs.size + 2 ∨ c = s1.heap.objs.size + 3 ∨ c = s1.heap.objs.size ∨ c = s1.heap.objs.size + 1 := by simpa using hcm
    have hle : s1.heap.objs.size ≤ c := by
      rcases e' with z | z | z | z | z
      · rw [z]; exact Nat.le_add_right _ _
      · rw [z]; exact Nat.le_add_right _ _
      · rw [z]; exact Nat.le_add_right _ _
      · rw [z]; exact Nat.le_refl _
      · rw [z]; exact Nat.le_add_right _ _
    exact I1.fpOk hle (I1.hok.fresh hle)
  obtain ⟨its, rv, p1, _⟩ := I1.list hqx
  have la : a < s1.heap.objs.size := p1.lt
  refine zip_begins2 (begins_list a its.toArray) (begins_text z t) p1.isList True.intro fun h' hz hTI hTO h1 h2 hsz hk => wpAny_pyIter_zip hz ?_
  have I2 : Inv X pins σ H1 { s1 with heap := h' } := I1.kept (t' := s1.toks) hk
  have D : ZipL (s1.heap.objs.size + 4) (s1.heap.objs.size + 2) (s1.heap.objs.size + 3) s1.heap.objs.size (s1.heap.objs.size + 1) a := by
    exact zipL_of la
  exact ⟨s1.heap.objs.size + 4, [s1.heap.objs.size + 4, s1.heap.objs.size + 2, s1.heap.objs.size + 3, s1.heap.objs.size, s1.heap.objs.size + 1], _, _, H1, rfl, I2, turn_zipS z t D, ⟨hz, hTI, ⟨_, _, hTO⟩, ⟨_, h1, rfl, rfl⟩, ⟨_, h2, rfl, rfl⟩⟩, fresh5, q⟩
theorem walk_zipS {K : PySem.W.Frag} {a : Addr} {z : Str} {xs : List V} (hl : z.cps.size ≤ xs.length) : Walk (ItzS K a z) z.cps.size (fun H => SqL K H a xs)
    (YPair (fun i => xs[i]?) (fun i => (z.cps[i]?).map fun c => V.str ⟨#[c]⟩)) := by
  refine ⟨fun i H hi q => ⟨xs, xs[i], q, by simp [show i < xs.length by omega], hi⟩, fun _ q => ⟨xs, q, hl, rfl⟩, fun i H x H' _ q ⟨T, y, c, h1, h2, h3, h4, h5⟩ => ⟨T, _, _, h1, h2, h3, h4 xs q, by show (z.cps[i]?).map _ = _; rw [h5]; rfl⟩⟩
end L2
namespace L2
open PySem PySem.Spec PyProof.Rows
def tDispT2 (tk tv tk2 tv2 : TE) : TE := fun σ H Q => ∀ p, H p = none → tk σ (upd H p (.dT [])) fun x H1 => tv σ H1 fun y H2 => tk2 σ H2 fun x2 H3 => tv2 σ H3 fun y2 H4 => ∃ b k b2 k2, x = .ref b ∧ x2 = .ref b2 ∧
  H4 b = some (.tup (k.map kV)) ∧ H4 b2 = some (.tup (k2.map kV)) ∧ H4 p = some (.dT []) ∧ Q (.ref p) (upd H4 p (.dT (putK (putK [] k y) k2 y2)))
theorem pe_dispT2 {X : Cx} {pos : Pos} {k v k2 v2 : Expr} {tk tv tk2 tv2 : TE} (hu : X.A.units + 2 < cLine) (hk : PE X k tk) (hv : PE X v tv) (hk2 : PE X k2 tk2) (hv2 : PE X v2 tv2) : PE X (.Dict [some k, some k2] [v, v2] pos) (tDispT2 tk tv tk2 tv2) := by
  refine ⟨fun pins s σ H Q I q => ?_⟩
  have hn := I.hok.fresh (Nat.le_refl s.heap.objs.size)
  have I1 := I.laid (a := s.heap.objs.size) (o := .dT []) (h' := s.heap.push { cls := .type "dict", data := .dict #[] }) (t' := s.toks) (fun _ _ q => Heap.get?_push_of_some _ q) (Nat.le_refl _) (dt_empty s.heap I.big)
  rw [arm_eval_Dict, zip_pairTrees [some k, some k2] [v, v2] X.env pos rfl rfl, dictDisplay_pairs _ (by
    intro z
    have := pairTrees_length [some k, some k2] [v, v2] X.env pos rfl rfl
    rw [z] at this
    cases this) (by
    rw [pairTrees_length [some k, some k2] [v, v2] X.env pos rfl rfl]
    show 2 < 17
    decide)]
  refine wpAny_bind (wpAny_standAt (wpAny_bind (wpAny_subDictH (knd := tupleKind (mixKind X.prog X.w)) (Q := fun d s' => wpAny (model X.prog X.w) X.A (pure (Value.ref d)) (EP X pins σ Q) X.xe s')
    (show X.A.units < cLine from Nat.lt_of_le_of_lt (Nat.le_add_right _ _) hu) (by rw [pairTrees_length [some k, some k2] [v, v2] X.env pos rfl rfl]; show 2 ≤ 15; decide) ?_)))
  refine pairTrees_cons_walk (thn (hk.run pins _ σ _ _ I1 (q _ hn)) fun u s1 ⟨x, H1, I2, rx, q1⟩ => thn (hv.run pins s1 σ H1 _ I2 q1) fun w1 s2 ⟨y, H2, I3, ry, q2⟩ =>
    pairTrees_cons_walk (thn (hk2.run pins s2 σ H2 _ I3 q2) fun u2 s3 ⟨x2, H3, I4, rx2, q3⟩ => thn (hv2.run pins s3 σ H3 _ I4 q3) fun w2 s4 ⟨y2, H4, I5, ry2, q4⟩ => pairTrees_nil_walk ?_))
  obtain ⟨b, ks, b2, ks2, rfl, rfl, eb, eb2, eD, q5⟩ := q4
  obtain rfl : u = Value.ref b := rx
  obtain rfl : u2 = Value.ref b2 := rx2
  obtain ⟨zl, notMods, xs, kt, dd⟩ := dt_of I5.hok eD
  cases kt
  refine ⟨[(ks, b, w1), (ks2, b2, w2)], ⟨rfl, rfl, key_of I5.hok eb, rfl, rfl, key_of I5.hok eb2, trivial⟩, dd, fun h' tk' dd' hs => wpAny_pure ⟨.ref _, _, ?_, rfl, q5⟩⟩
  have he : ∃ q, h'.get? s.heap.objs.size = some q := let ⟨q, _, _, hq, _⟩ := dd'; ⟨q, hq⟩
  obtain ⟨o, ents, ep, at_, c2, c3, c4, _, c5⟩ := dd'
  refine d_write I5 (by rw [eD]; trivial) hs he ⟨?_, notMods, _, (((KT.put (kvs := []) .nil ks eb ry).put ks2 eb2 ry2).keeps fun c ys ec => ?_), o, ents, ep, at_, c2, c3, c4, c5⟩
  · have lp : ∀ (kvs : List (List Key × V)) (k : List Key) (v : V), (putK kvs k v).length ≤ kvs.length + 1 := fun kvs k v => by
      unfold putK
      split
      · rw [List.length_map]
        omega
      · rw [List.length_append]
        exact Nat.le_refl _
    have l1 := lp (putK [] ks y) ks2 y2
    have l2 := lp [] ks y
    exact Nat.le_trans l1 (Nat.le_trans (Nat.succ_le_succ l2) (by show 2 ≤ sizeLine; decide))
  · exact upd_oth (fun z => by rw [z, eD] at ec; cases ec) ec
end L2
namespace L2
open PySem PySem.Spec PyProof.Rows
def KfS (P : Program) (w : World) (K : PySem.W.Frag) (mg : Str → Option Value) (base : Heap) (k : Nat) (x : Str) (sp : Sp) : Prop :=
  ∃ f, mg x = some (.ref f) ∧ PySem.W.keepIn K (.ref f) = true ∧ FnR P w K mg base (L2.CX P w) k f sp
def tKfS (sp : Sp) (E : XK) (t : TA) : TE := fun σ H Q => t σ H fun vs H1 => sp vs H1 Q E
theorem pe_kfS {X : Cx} {k j : Nat} {sp : Sp} {x : Str} {p pos : Pos} {e : Expr} {es : List Expr} {t : TA} {E : XK} (F : KfS X.prog X.w X.K X.mg X.base k x sp) (hr : Room j X.A) (hx : Passes (L2.CX X.prog X.w) X E)
    (hg : Gl X x) (ha : PA X (e :: es) t) (hj : k ≤ j := by decide)
    (hdb : (x == ("__debug__" : Str)) = false := by decide)
    (he : starEach (e :: es) X.env = (false, eval e X.env) :: starEach es X.env := by rfl)
    (hpl : (backTo pos (starEach es X.env)).any (·.1) = false := by rfl) :
    PE X (.Call (.Name x p) (e :: es) [] pos) (tKfS sp E t) := by
  obtain ⟨f, hm, hk, G⟩ := F
  refine ⟨fun pins s σ H Q I h => ?_⟩
  refine wpAny_Call_Name_kw (ld_glob I hg hm ?_ hdb)
  refine PySem.W.callWith_K (h₀ := X.base) I.ok.mod.kin hk (thn (ha.run pos pins s σ H _ I h) fun us s1 ⟨vs, H1, I1, r, q⟩ => ⟨I1.kIn, ?_⟩) he hpl
  exact wpAny_call (run_fnR G (hr.mono hj) hx I1 r q)
end L2
namespace KC
open PySem L2
local macro_rules | `(tactic| walk_at "hp") => `(tactic| first
  | assumption
  | exact upd_same
  | (refine upd_new (by assumption) ?_; walk_at "hp")
  | (refine upd_oth (by first | assumption | (apply Ne.symm; assumption)) ?_; walk_at "hp"))
def top (i : Nat) : Stmt := PySem.Challenge.pw_headgap_k62_texts_cut_in_pieces.main.body.getD i (.Pass ⟨0, 0, 0, 0⟩)
abbrev s_ipair : Stmt := top 22
abbrev n_ipair : List Str := ["value"]
theorem sc_ipair : FnScope n_ipair ["value"] (defScope s_ipair) :=
  ⟨rfl, rfl, rfl, by decide +kernel, rfl, by decide +kernel, by decide +kernel⟩
abbrev s_iletters : Stmt := top 23
abbrev n_iletters : List Str := ["value", "least", "most"]
theorem sc_iletters : FnScope n_iletters ["value", "least", "most"] (defScope s_iletters) :=
  ⟨rfl, rfl, rfl, by decide +kernel, rfl, by decide +kernel, by decide +kernel⟩
abbrev s_iletter : Stmt := top 24
abbrev n_iletter : List Str := ["value"]
theorem sc_iletter : FnScope n_iletter ["value"] (defScope s_iletter) :=
  ⟨rfl, rfl, rfl, by decide +kernel, rfl, by decide +kernel, by decide +kernel⟩
abbrev s_iname : Stmt := top 25
abbrev n_iname : List Str := ["value"]
theorem sc_iname : FnScope n_iname ["value"] (defScope s_iname) :=
  ⟨rfl, rfl, rfl, by decide +kernel, rfl, by decide +kernel, by decide +kernel⟩
abbrev s_ianswer : Stmt := top 26
abbrev n_ianswer : List Str := ["value"]
theorem sc_ianswer : FnScope n_ianswer ["value"] (defScope s_ianswer) :=
  ⟨rfl, rfl, rfl, by decide +kernel, rfl, by decide +kernel, by decide +kernel⟩
abbrev s_itext : Stmt := top 27
abbrev n_itext : List Str := ["value"]
theorem sc_itext : FnScope n_itext ["value"] (defScope s_itext) :=
  ⟨rfl, rfl, rfl, by decide +kernel, rfl, by decide +kernel, by decide +kernel⟩
abbrev s_igoal : Stmt := top 29
abbrev n_igoal : List Str := ["value"]
theorem sc_igoal : FnScope n_igoal ["value"] (defScope s_igoal) :=
  ⟨rfl, rfl, rfl, by decide +kernel, rfl, by decide +kernel, by decide +kernel⟩
abbrev s_asteps : Stmt := top 30
abbrev n_asteps : List Str := ["steps", "key"]
theorem sc_asteps : FnScope n_asteps ["steps"] (defScope s_asteps) :=
  ⟨rfl, rfl, rfl, by decide +kernel, rfl, by decide +kernel, by decide +kernel⟩
abbrev s_atails : Stmt := top 31
abbrev n_atails : List Str := ["tails", "name"]
theorem sc_atails : FnScope n_atails ["tails"] (defScope s_atails) :=
  ⟨rfl, rfl, rfl, by decide +kernel, rfl, by decide +kernel, by decide +kernel⟩
abbrev s_snames : Stmt := top 33
abbrev n_snames : List Str := ["start", "steps", "tails", "names", "state", "letter", "_", "to", "name"]
theorem sc_snames : FnScope n_snames ["start", "steps", "tails"] (defScope s_snames) :=
  ⟨rfl, rfl, rfl, by decide +kernel, rfl, by decide +kernel, by decide +kernel⟩
abbrev s_sletters : Stmt := top 34
abbrev n_sletters : List Str := ["steps", "found", "state", "letter"]
theorem sc_sletters : FnScope n_sletters ["steps"] (defScope s_sletters) :=
  ⟨rfl, rfl, rfl, by decide +kernel, rfl, by decide +kernel, by decide +kernel⟩
abbrev s_followed : Stmt := top 35
abbrev n_followed : List Str := ["converter", "start", "text", "written", "state", "at", "letter", "answer", "to"]
theorem sc_followed : FnScope n_followed ["converter", "start", "text"] (defScope s_followed) :=
  ⟨rfl, rfl, rfl, by decide +kernel, rfl, by decide +kernel, by decide +kernel⟩
abbrev s_init : Stmt := inClass (top 52) 3
abbrev n_init : List Str := ["self", "start", "steps", "tails", "states", "letters", "key", "state"]
theorem sc_init : FnScope n_init ["self", "start", "steps", "tails"] (defScope s_init) :=
  ⟨rfl, rfl, rfl, by decide +kernel, rfl, by decide +kernel, by decide +kernel⟩
abbrev s_call : Stmt := inClass (top 52) 15
abbrev n_call : List Str := ["self", "text", "written", "state", "many"]
theorem sc_call : FnScope n_call ["self", "text"] (defScope s_call) :=
  ⟨rfl, rfl, rfl, by decide +kernel, rfl, by decide +kernel, by decide +kernel⟩
abbrev s_lpen : Stmt := top 60
abbrev n_lpen : List Str := ["_law_script"]
theorem sc_lpen : FnScope n_lpen ["_law_script"] (defScope s_lpen) :=
  ⟨rfl, rfl, rfl, by decide +kernel, rfl, by decide +kernel, by decide +kernel⟩
abbrev s_ldraw : Stmt := top 61
abbrev n_ldraw : List Str := ["_law_pen_here", "_law_many", "_law_digit", "_law_turn", "_law_drawn", "_law_great", "_law_stirred"]
theorem sc_ldraw : FnScope n_ldraw ["_law_pen_here", "_law_many"] (defScope s_ldraw) :=
  ⟨rfl, rfl, rfl, by decide +kernel, rfl, by decide +kernel, by decide +kernel⟩
abbrev s_lpick : Stmt := top 62
abbrev n_lpick : List Str := ["_law_pen_here", "_law_some"]
theorem sc_lpick : FnScope n_lpick ["_law_pen_here", "_law_some"] (defScope s_lpick) :=
  ⟨rfl, rfl, rfl, by decide +kernel, rfl, by decide +kernel, by decide +kernel⟩
abbrev s_lplan : Stmt := top 63
abbrev n_lplan : List Str := ["_law_pen_here", "_law_most", "_law_states", "_law_letters_here", "_law_steps", "_law_tails", "_law_state", "_law_letter"]
theorem sc_lplan : FnScope n_lplan ["_law_pen_here", "_law_most"] (defScope s_lplan) :=
  ⟨rfl, rfl, rfl, by decide +kernel, rfl, by decide +kernel, by decide +kernel⟩
abbrev s_lmade : Stmt := top 64
abbrev n_lmade : List Str := ["_law_plan_here"]
theorem sc_lmade : FnScope n_lmade ["_law_plan_here"] (defScope s_lmade) :=
  ⟨rfl, rfl, rfl, by decide +kernel, rfl, by decide +kernel, by decide +kernel⟩
abbrev s_lbehind : Stmt := top 66
abbrev n_lbehind : List Str := ["_law_plan_here", "_law_states", "_law_found", "_law_turn", "_law_key"]
theorem sc_lbehind : FnScope n_lbehind ["_law_plan_here", "_law_states"] (defScope s_lbehind) :=
  ⟨rfl, rfl, rfl, by decide +kernel, rfl, by decide +kernel, by decide +kernel⟩
abbrev s_luseful : Stmt := top 67
abbrev n_luseful : List Str := ["_law_plan_here", "_law_come", "_law_state", "_law_one"]
theorem sc_luseful : FnScope n_luseful ["_law_plan_here"] (defScope s_luseful) :=
  ⟨rfl, rfl, rfl, by decide +kernel, rfl, by decide +kernel, by decide +kernel⟩
abbrev s_lrun : Stmt := top 68
abbrev n_lrun : List Str := ["_law_plan_here", "_law_text_here", "_law_found", "_law_letter"]
theorem sc_lrun : FnScope n_lrun ["_law_plan_here", "_law_text_here"] (defScope s_lrun) :=
  ⟨rfl, rfl, rfl, by decide +kernel, rfl, by decide +kernel, by decide +kernel⟩
abbrev s_listaken : Stmt := top 69
abbrev n_listaken : List Str := ["_law_plan_here", "_law_text_here", "_law_states"]
theorem sc_listaken : FnScope n_listaken ["_law_plan_here", "_law_text_here"] (defScope s_listaken) :=
  ⟨rfl, rfl, rfl, by decide +kernel, rfl, by decide +kernel, by decide +kernel⟩
abbrev s_lanswer : Stmt := top 70
abbrev n_lanswer : List Str := ["_law_plan_here", "_law_text_here", "_law_states", "_law_state", "_law_letter"]
theorem sc_lanswer : FnScope n_lanswer ["_law_plan_here", "_law_text_here"] (defScope s_lanswer) :=
  ⟨rfl, rfl, rfl, by decide +kernel, rfl, by decide +kernel, by decide +kernel⟩
abbrev s_ltext : Stmt := top 71
abbrev n_ltext : List Str := ["_law_pen_here", "_law_plan_here", "_law_most", "_law_found", "_law_state", "_law_k", "_law_some", "_law_letter", "_law_key"]
theorem sc_ltext : FnScope n_ltext ["_law_pen_here", "_law_plan_here", "_law_most"] (defScope s_ltext) :=
  ⟨rfl, rfl, rfl, by decide +kernel, rfl, by decide +kernel, by decide +kernel⟩
abbrev s_lhome : Stmt := top 72
abbrev n_lhome : List Str := ["_law_pen_here", "_law_plan_here", "_law_text_here", "_law_good", "_law_states", "_law_found", "_law_state", "_law_turn", "_law_some", "_law_letter", "_law_key"]
theorem sc_lhome : FnScope n_lhome ["_law_pen_here", "_law_plan_here", "_law_text_here"] (defScope s_lhome) :=
  ⟨rfl, rfl, rfl, by decide +kernel, rfl, by decide +kernel, by decide +kernel⟩
abbrev s_lheard : Stmt := top 73
abbrev n_lheard : List Str := ["_law_call", "_law_caught", "_law_found", "error"]
theorem sc_lheard : FnScope n_lheard ["_law_call"] (defScope s_lheard) :=
  ⟨rfl, rfl, rfl, by decide +kernel, rfl, by decide +kernel, by decide +kernel⟩
abbrev s_lpiece : Stmt := top 74
abbrev n_lpiece : List Str := ["_law_plan_here", "_law_text_here", "_law_first", "_law_states"]
theorem sc_lpiece : FnScope n_lpiece ["_law_plan_here", "_law_text_here", "_law_first"] (defScope s_lpiece) :=
  ⟨rfl, rfl, rfl, by decide +kernel, rfl, by decide +kernel, by decide +kernel⟩
abbrev s_ldue : Stmt := top 75
abbrev n_ldue : List Str := ["_law_plan_here", "_law_text_here", "_law_places", "_law_ends", "_law_found", "_law_one", "_law_other", "_law_told"]
theorem sc_ldue : FnScope n_ldue ["_law_plan_here", "_law_text_here", "_law_places"] (defScope s_ldue) :=
  ⟨rfl, rfl, rfl, by decide +kernel, rfl, by decide +kernel, by decide +kernel⟩
abbrev s_lcostdue : Stmt := top 76
abbrev n_lcostdue : List Str := ["_law_plan_here", "_law_text_here", "_law_at", "_law_whole", "_law_told", "_law_answer_here"]
theorem sc_lcostdue : FnScope n_lcostdue ["_law_plan_here", "_law_text_here", "_law_at"] (defScope s_lcostdue) :=
  ⟨rfl, rfl, rfl, by decide +kernel, rfl, by decide +kernel, by decide +kernel⟩
abbrev s_lcut : Stmt := top 77
abbrev n_lcut : List Str := ["_law_made_here", "_law_text_here", "_law_places"]
theorem sc_lcut : FnScope n_lcut ["_law_made_here", "_law_text_here", "_law_places"] (defScope s_lcut) :=
  ⟨rfl, rfl, rfl, by decide +kernel, rfl, by decide +kernel, by decide +kernel⟩
abbrev s_law : Stmt := top 78
abbrev n_law : List Str := ["_law_script", "_law_pen_here", "_law_again", "_law_plan_here", "_law_made_here", "_law_turn", "_law_text_here", "_law_places", "_law_at", "_law_wrong", "_law_heard_here", "_law_due_here", "_law_odd", "_law_word", "_law_evens", "_law_k"]
theorem sc_law : FnScope n_law ["_law_script"] (defScope s_law) :=
  ⟨rfl, rfl, rfl, by decide +kernel, rfl, by decide +kernel, by decide +kernel⟩
def blts : List Str := ["len", "repr", "isinstance", "abs", "int", "list", "range", "tuple", "bool", "all", "any", "max", "min", "str", "dict", "sorted", "enumerate", "zip", "sum"]
/-- the pen at p: its cells are ns, at most n draws are done -/
def PenAt (H : Hp) (p c : Addr) (ns : List Int) (n : Nat) : Prop :=
  ∃ (t g : Int), H p = some (.lst [.ref c, .int t, .int g]) ∧ H c = some (.lst (ns.map V.int)) ∧ c ≠ p ∧ 0 ≤ t ∧ t ≤ n
def spPen (K : PySem.W.Frag) : Sp := fun vs H Q _ => ∃ (a : Addr) (ns : List Int), vs = [.ref a] ∧
  SqL K H a (ns.map V.int) ∧ ns.length ≤ 63 ∧
  ∀ (p c : Addr) (H' : Hp), H p = none → H c = none → Same H H' → PenAt H' p c ns 0 → Q (.ref p) H'
def spDraw : Sp := fun vs H Q _ => ∃ (p c : Addr) (many : Int) (ns : List Int) (n : Nat),
  vs = [.ref p, .int many] ∧ PenAt H p c ns n ∧ ns.length ≤ 63 ∧ 1 ≤ many ∧ many < 1000000000 ∧ n < 1000000 ∧
  ∀ (r : Int) (H' : Hp), 0 ≤ r → r < many → PenAt H' p c ns (n + 1) → But p H H' → Q (.int r) H'
structure Txt (K : PySem.W.Frag) (mg : Str → Option Value) : Prop where
  nb : ∀ x ∈ blts, mg x = none
  cs_letters : ∃ t, mg "LETTERS" = some (.str "abcdefghijklmnopqrstuvwxyz" t)
  cs_name : ∃ t, mg "LONGEST_NAME" = some (.int 8 t)
  cs_answer : ∃ t, mg "LONGEST_ANSWER" = some (.int 4 t)
  cs_text : ∃ t, mg "LONGEST_TEXT" = some (.int 400 t)
  d_ipair : OwnD K mg "is_pair" s_ipair ["value"]
  d_iletters : OwnD K mg "is_letters" s_iletters ["value", "least", "most"]
  d_iletter : OwnD K mg "is_letter" s_iletter ["value"]
  d_iname : OwnD K mg "is_name" s_iname ["value"]
  d_ianswer : OwnD K mg "is_answer" s_ianswer ["value"]
  d_itext : OwnD K mg "is_text" s_itext ["value"]
  d_igoal : OwnD K mg "is_goal" s_igoal ["value"]
  d_asteps : OwnD K mg "are_steps" s_asteps ["steps"]
  d_atails : OwnD K mg "are_tails" s_atails ["tails"]
  d_snames : OwnD K mg "state_names" s_snames ["start", "steps", "tails"]
  d_sletters : OwnD K mg "step_letters" s_sletters ["steps"]
  d_followed : OwnD K mg "followed" s_followed ["converter", "start", "text"]
  d_pen : OwnD K mg "_law_pen" s_lpen ["_law_script"]
  d_draw : OwnD K mg "_law_draw" s_ldraw ["_law_pen_here", "_law_many"]
  d_pick : OwnD K mg "_law_pick" s_lpick ["_law_pen_here", "_law_some"]
  d_lplan : OwnD K mg "_law_plan" s_lplan ["_law_pen_here", "_law_most"]
  d_lmade : OwnD K mg "_law_made" s_lmade ["_law_plan_here"]
  d_lbehind : OwnD K mg "_law_behind" s_lbehind ["_law_plan_here", "_law_states"]
  d_luseful : OwnD K mg "_law_useful" s_luseful ["_law_plan_here"]
  d_lrun : OwnD K mg "_law_run" s_lrun ["_law_plan_here", "_law_text_here"]
  d_listaken : OwnD K mg "_law_is_taken" s_listaken ["_law_plan_here", "_law_text_here"]
  d_lanswer : OwnD K mg "_law_answer" s_lanswer ["_law_plan_here", "_law_text_here"]
  d_ltext : OwnD K mg "_law_text" s_ltext ["_law_pen_here", "_law_plan_here", "_law_most"]
  d_lhome : OwnD K mg "_law_home" s_lhome ["_law_pen_here", "_law_plan_here", "_law_text_here"]
  d_lheard : OwnD K mg "_law_heard" s_lheard ["_law_call"]
  d_lpiece : OwnD K mg "_law_piece" s_lpiece ["_law_plan_here", "_law_text_here", "_law_first"]
  d_ldue : OwnD K mg "_law_due" s_ldue ["_law_plan_here", "_law_text_here", "_law_places"]
  d_lcostdue : OwnD K mg "_law_cost_due" s_lcostdue ["_law_plan_here", "_law_text_here", "_law_at"]
  d_lcut : OwnD K mg "_law_cut" s_lcut ["_law_made_here", "_law_text_here", "_law_places"]
  d_law : OwnD K mg "law" s_law ["_law_script"]
section
variable {P : Program} {w : World} {K : PySem.W.Frag} {mg : Str → Option Value} {base : Heap}
theorem eqv_nil (ds : List PyData) : PyData.eqv (.list ds) (.list []) = ds.isEmpty := by
  cases ds <;> simp [PyData.eqv, PyData.eqvAll]
theorem shaped_ints (ns : List Int) : SeqAt.shaped (.list (ns.map PyData.int)) = true := by
  have h1 : ∀ l : List Int, PyData.canLayAll0 (l.map PyData.int) = true := by
    intro l
    induction l with
    | nil => simp [PyData.canLayAll0]
    | cons a l ih => simp [PyData.canLayAll0, PyData.canLay0, ih]
  have h2 : ∀ l : List Int, PyData.depthAll (l.map PyData.int) ≤ 1 := by
    intro l
    induction l with
    | nil => simp [PyData.depthAll]
    | cons a l ih => simp [PyData.depthAll, PyData.depth]; omega
  unfold SeqAt.shaped
  have := h2 ns
  simp [PyData.canLay0, PyData.depth, h1]
  omega
theorem kp_draw (T : Txt K mg) : Kf P w K mg base 1 "_law_draw" ["_law_pen_here", "_law_many"] spDraw := by
  refine T.d_draw.okF sc_ldraw (fun vs H Q E h => ?_) (fun f cdv A outer s H vs Q E hA hr h => ?_)
  · obtain ⟨p, c, m, ns, n, rfl, _⟩ := h
    rfl
  · obtain ⟨p, c, m, ns, n, rfl, ⟨t, g, hp, hc, ne, t0, t1⟩, hlen, m0, m1, hn, k⟩ := h
    have fin : ∀ (r t' g' : Int) (H' : Hp), 0 ≤ r → r < m → 0 ≤ t' → t' ≤ (n : Int) + 1 → H' p = some (.lst [.ref c, .int t', .int g']) →
        But p H H' → Q (.int r) H' := fun r t' g' H' r0 r1 a b e fr =>
      k r H' r0 r1 ⟨t', g', e, fr c ne _ hc, ne, a, by omega⟩ fr
    refine ⟨_, (pss_cons (ps_if (pt_cmpR op_gt (pe_ix (ix_list : IxR _ (rIxL K)) (pv 0) (pe_int) (fun _ _ => rfl)) (pe_int) (nomark _))
 (pss_cons (ps_set (i := 2) sc_ldraw.nd rfl (Or.inl rfl) (pe_op op_modW (pe_callTy call_intI (by rfl) (T.nb _ (by decide)) (by decide +kernel) (pa_cons (pe_ix (ix_list : IxR _ (rIxL K)) (pv 0) (pe_int) (fun _ _ => rfl)) pa_nil)) (pv 1)))
 (pss_cons (ps_asg (pe_op op_divW (pe_callTy call_intI (by rfl) (T.nb _ (by decide)) (by decide +kernel) (pa_cons (pe_ix (ix_list : IxR _ (rIxL K)) (pv 0) (pe_int) (fun _ _ => rfl)) pa_nil)) (pv 1)) (pg_sub (pv 0) (pe_int) set_list))
 (pss_one (ps_ret (pv 2))))) pss_nil)
 (pss_cons (ps_set (i := 3) sc_ldraw.nd rfl (Or.inl rfl) (pe_ix (ix_list : IxR _ (rIxL K)) (pv 0) (pe_int) (fun _ _ => rfl)))
 (pss_cons (ps_asg (pe_op op_add (pv 3) (pe_int)) (pg_sub (pv 0) (pe_int) set_list))
 (pss_cons (ps_set (i := 4) sc_ldraw.nd rfl (Or.inl rfl) (pe_op op_add (pe_op op_mulW' (pe_int) (pv 3)) (pe_int)))
 (pss_mid (ps_if (pt_cmpR (op_neD hr.units) (pe_ix (ix_list : IxR _ (rIxL K)) (pv 0) (pe_int) (fun _ _ => rfl)) (pe_lst pa_nil) (nomark _))
 (pss_one (ps_set (i := 4) sc_ldraw.nd rfl (Or.inl rfl) (pe_ix (ix_list : IxR _ (rIxL K)) (pe_ix (ix_list : IxR _ (rIxL K)) (pv 0) (pe_int) (fun _ _ => rfl)) (pe_op op_modW (pe_callTy call_intI (by rfl) (T.nb _ (by decide)) (by decide +kernel) (pa_cons (pv 3) pa_nil)) (pe_callB call_len (by rfl) (T.nb _ (by decide)) PySem.boot_len (pa_cons (pe_ix (ix_list : IxR _ (rIxL K)) (pv 0) (pe_int) (fun _ _ => rfl)) pa_nil))) (fun _ _ => rfl)))) pss_nil)
 (pss_mid (ps_if (PW.pt (pw_and (pt_cmpR op_lt (pv 3) (pe_callB call_len (by rfl) (T.nb _ (by decide)) PySem.boot_len (pa_cons (pe_ix (ix_list : IxR _ (rIxL K)) (pv 0) (pe_int) (fun _ _ => rfl)) pa_nil)) (nomark _)) (pw_and1 (pt_cmpR op_ge (pe_callB call_abs (by rfl) (T.nb _ (by decide)) (by decide +kernel) (pa_cons (pv 4) pa_nil)) (pe_op op_pow (pe_int) (pe_int)) (nomark _)))))
 (pss_cons (ps_set (i := 5) sc_ldraw.nd rfl (Or.inl rfl) (pe_op op_add (pe_op op_mulW' (pe_int) (pe_op op_sub (pe_callB call_abs (by rfl) (T.nb _ (by decide)) (by decide +kernel) (pa_cons (pv 4) pa_nil)) (pe_op op_pow (pe_int) (pe_int)))) (pe_callTy call_intB (by rfl) (T.nb _ (by decide)) (by decide +kernel) (pa_cons (pe_cmpR op_lt (pv 4) (pe_int) (nomark _)) pa_nil))))
 (pss_cons (ps_asg (pe_op op_divW (pe_callTy call_intI (by rfl) (T.nb _ (by decide)) (by decide +kernel) (pa_cons (pv 5) pa_nil)) (pv 1)) (pg_sub (pv 0) (pe_int) set_list))
 (pss_one (ps_ret (pe_op op_modW (pe_callTy call_intI (by rfl) (T.nb _ (by decide)) (by decide +kernel) (pa_cons (pv 5) pa_nil)) (pv 1)))))) pss_nil)
 (pss_cons (ps_set (i := 6) sc_ldraw.nd rfl (Or.inl rfl) (pe_op op_modW (pe_callTy call_intI (by rfl) (T.nb _ (by decide)) (by decide +kernel) (pa_cons (pe_op op_powW (pe_op op_add (pe_op op_add (pe_op op_modW (pe_callTy call_intI (by rfl) (T.nb _ (by decide)) (by decide +kernel) (pa_cons (pv 4) pa_nil)) (pe_int)) (pe_op op_mulW' (pe_int) (pv 3))) (pe_int)) (pe_int)) pa_nil)) (pe_int)))
 (pss_cons (ps_set (i := 6) sc_ldraw.nd rfl (Or.inl rfl) (pe_op op_modW (pe_callTy call_intI (by rfl) (T.nb _ (by decide)) (by decide +kernel) (pa_cons (pe_op op_powW (pe_op op_add (pe_op op_add (pe_op op_mulW' (pv 6) (pe_op op_add (pe_op op_mulW' (pe_int) (pv 3)) (pe_int))) (pe_op op_mulW' (pe_op op_mulW' (pe_int) (pv 3)) (pv 3))) (pe_int)) (pe_int)) pa_nil)) (pe_int)))
 (pss_one (ps_ret (pe_op op_modW (pe_callTy call_intI (by rfl) (T.nb _ (by decide)) (by decide +kernel) (pa_cons (pe_op op_divW (pv 6) (pe_int)) pa_nil)) (pv 1)))))))))))), ?_⟩
    refine ⟨_, rfl, _, _, _, _, rfl, rfl, SqL.of (by walk_at "hp"), rfl, _, _, rfl, rfl, _, rfl, ?_⟩
    refine ite2 (fun c1 => ?_) (fun c1 => ?_)
    · -- a digit of a great cell
      refine ⟨_, rfl, _, _, _, _, rfl, rfl, SqL.of (by walk_at "hp"), rfl, _, rfl, _, rfl, _, _, rfl, rfl, by omega, fun r r0 r1 => ?_⟩
      refine ⟨_, rfl, _, _, _, _, rfl, rfl, SqL.of (by walk_at "hp"), rfl, _, rfl, _, rfl, _, _, rfl, rfl, by omega, by omega, fun q z _ _ _ => ?_⟩
      refine ⟨_, rfl, _, _, _, _, rfl, rfl, by walk_at "hp", rfl, _, rfl, ?_⟩
      exact fin r t q _ r0 r1 t0 (by omega) upd_same (fun b hb o e => upd_oth hb e)
    · refine ⟨_, rfl, _, _, _, _, rfl, rfl, SqL.of (by walk_at "hp"), rfl, ?_⟩
      refine ⟨_, rfl, _, _, rfl, rfl, _, rfl, _, _, _, _, rfl, rfl, by walk_at "hp", rfl, ?_⟩
      refine ⟨_, rfl, _, _, rfl, rfl, .inl (by constructor <;> decide), fun z hz => ?_⟩
      refine ⟨_, _, rfl, rfl, ?_⟩
      have hp1 : ∀ u : HO, upd H p u p = some u := fun u => upd_same
      have hc1 : ∀ u : HO, upd H p u c = some (.lst (ns.map V.int)) := fun u => upd_oth ne hc
      have fr1 : ∀ u : HO, But p H (upd H p u) := fun u b hb o e => upd_oth hb e
      -- behind the first cell's choice: some int
      let σ2 : Int → St := fun v => [some (.ref p), some (.int m), none, some (.int t), some (.int v), none, none]
      refine ⟨fun σ' H' => (∃ v, σ' = σ2 v) ∧ H' p = some (.lst [.ref c, .int (t + 1), .int g]) ∧ But p H H', ?_, ?_⟩
      · refine ⟨_, rfl, _, _, _, _, rfl, rfl, SqL.of (hp1 _), rfl, by decide, fun l hl => ?_⟩
        have hp2 : ∀ u : HO, upd (upd H p (.lst [.ref c, .int (t + 1), .int g])) l u p = some (.lst [.ref c, .int (t + 1), .int g]) :=
          fun u => upd_new hl (hp1 _)
        have hc2 : ∀ u : HO, upd (upd H p (.lst [.ref c, .int (t + 1), .int g])) l u c = some (.lst (ns.map V.int)) :=
          fun u => upd_new hl (hc1 _)
        have fr2 : ∀ u : HO, But p H (upd (upd H p (.lst [.ref c, .int (t + 1), .int g])) l u) := fun u b hb o e => upd_new hl (fr1 _ b hb o e)
        refine ⟨_, _, .lst (SqL.of (hc2 _)) (dp_ints ns), .lst (SqL.of upd_same) .nil, shaped_ints ns, rfl, _, rfl, ?_⟩
        rw [eqv_nil]
        refine ite2 (fun c2 => ?_) (fun c2 => ?_)
        · have hne : 0 < (ns.length : Int) := by
            cases ns with
            | nil => simp at c2
            | cons a l => simp
          refine ⟨_, rfl, _, _, _, _, rfl, rfl, SqL.of (hp2 _), rfl, _, rfl, _, rfl, _, rfl, _, _, _, _, rfl, rfl, SqL.of (hp2 _), rfl, ?_⟩
          refine ⟨_, _, rfl, len_lst (hc2 _), _, _, rfl, rfl, ?_, fun r r0 r1 => ?_⟩
          · rw [List.length_map]; exact hne
          · rw [List.length_map] at r1
            obtain ⟨x, hx⟩ := at_map r0 r1
            exact ⟨_, _, _, _, rfl, rfl, SqL.of (hc2 _), hx, ⟨x, rfl⟩, hp2 _, fr2 _⟩
        · exact ⟨⟨_, rfl⟩, hp2 _, fr2 _⟩
      · rintro σ' H' ⟨⟨v, rfl⟩, hp', fr'⟩
        have hc' : H' c = some (.lst (ns.map V.int)) := fr' c ne _ hc
        refine ⟨fun σ1 H1 => σ1 = σ2 v ∧ H1 p = some (.lst [.ref c, .int (t + 1), .int g]) ∧ But p H H1, ?_, ?_⟩
        · refine ⟨_, rfl, _, rfl, _, _, _, _, rfl, rfl, SqL.of hp', rfl, _, _, rfl, len_lst hc', _, _, rfl, rfl, _, rfl, ?_⟩
          refine ite2 (fun c3 => ?_) (fun c3 => iteF ⟨rfl, hp', fr'⟩)
          refine ⟨_, rfl, _, rfl, _, _, rfl, rfl, ⟨by decide, by decide, by decide⟩, _, _, rfl, rfl, _, rfl, ?_⟩
          refine ite2 (fun c4 => ?_) (fun c4 => ⟨rfl, hp', fr'⟩)
          refine ⟨_, rfl, _, rfl, _, _, rfl, rfl, ⟨by decide, by decide, by decide⟩, _, _, rfl, rfl, _, _, rfl, rfl, .inl (by constructor <;> decide), fun z1 hz1 => ?_⟩
          refine ⟨_, rfl, _, _, rfl, rfl, _, rfl, fun i i0 i1 => ⟨_, _, rfl, rfl, ?_⟩⟩
          refine ⟨_, rfl, _, rfl, _, rfl, _, _, rfl, rfl, by omega, by omega, fun q z2 _ _ _ => ?_⟩
          refine ⟨_, rfl, _, _, _, _, rfl, rfl, by walk_at "hp", rfl, ?_⟩
          refine ⟨_, rfl, _, rfl, _, rfl, _, _, rfl, rfl, by omega, fun r r0 r1 => ?_⟩
          exact fin r (t + 1) q _ r0 r1 (by omega) (by omega) upd_same (fun b hb o e => upd_oth hb (fr' b hb o e))
        · rintro σ1 H1 ⟨rfl, hp1, fr1⟩
          refine ⟨_, rfl, _, rfl, _, _, rfl, rfl, by decide, fun r r0 r1 => ?_⟩
          refine ⟨_, rfl, _, _, rfl, rfl, .inl (by constructor <;> decide), fun z1 hz1 => ?_⟩
          refine ⟨_, _, rfl, rfl, _, _, rfl, rfl, _, _, rfl, rfl, by decide, by decide, by omega, fun z2 => ?_⟩
          refine ⟨_, rfl, _, _, rfl, rfl, by decide, fun b b0 b1 => ?_⟩
          refine ⟨_, rfl, _, rfl, _, _, rfl, rfl, .inl (by constructor <;> decide), fun z3 hz3 => ?_⟩
          refine ⟨_, _, rfl, rfl, _, _, rfl, rfl, .inl (by constructor <;> omega), fun z4 hz4 => ?_⟩
          refine ⟨_, rfl, _, _, rfl, rfl, .inl (by constructor <;> decide), fun z5 hz5 => ?_⟩
          refine ⟨_, rfl, _, _, rfl, rfl, .inl (by constructor <;> omega), fun z6 hz6 => ?_⟩
          have z40 : 0 ≤ z4 ∧ z4 ≤ 2147483647 * 2010000 := by
            subst hz4
            have a1 : 0 ≤ z3 + 755 := by omega
            have a2 : z3 + 755 ≤ 2010000 := by omega
            exact ⟨Int.mul_nonneg b0 a1, Int.le_trans (Int.mul_le_mul_of_nonneg_right (by omega) a1) (Int.mul_le_mul_of_nonneg_left a2 (by decide))⟩
          have z60 : 0 ≤ z6 ∧ z6 ≤ 72857 * 1000000 * 1000000 := by
            subst hz6
            have a1 : 0 ≤ t := t0
            have a2 : t ≤ 1000000 := by omega
            have a3 : 0 ≤ z5 := by omega
            exact ⟨Int.mul_nonneg a3 a1, Int.le_trans (Int.mul_le_mul_of_nonneg_right (by omega) a1) (Int.mul_le_mul_of_nonneg_left a2 (by decide))⟩
          refine ⟨_, _, rfl, rfl, _, _, rfl, rfl, _, _, rfl, rfl, by decide, by decide, by omega, fun z7 => ?_⟩
          refine ⟨_, rfl, _, _, rfl, rfl, by decide, fun d d0 d1 => ?_⟩
          refine ⟨_, rfl, _, _, rfl, rfl, by decide, by decide, fun q z8 _ _ _ => ?_⟩
          refine ⟨_, rfl, _, rfl, _, _, rfl, rfl, by omega, fun r2 r20 r21 => ?_⟩
          exact fin r2 (t + 1) g _ r20 r21 (by omega) (by omega) hp1 fr1
theorem kp_pen (T : Txt K mg) : Kf P w K mg base 1 "_law_pen" ["_law_script"] (spPen K) := by
  refine T.d_pen.okF sc_lpen (fun vs H Q E h => ?_) (fun f cdv A outer s H vs Q E hA hr h => ?_)
  · obtain ⟨a, ns, rfl, _⟩ := h
    rfl
  · obtain ⟨a, ns, rfl, hs, hlen, k⟩ := h
    refine ⟨_, (pss_one (ps_ret (pe_lst (pa_cons (pe_callTy call_list_of (by rfl) (T.nb _ (by decide)) (by decide +kernel) (pa_cons (pe_slice (sl_list : SlR _ (rSlL K)) (pv 0) po_none (po_some (pe_int))) pa_nil)) (pa_cons (pe_int) (pa_cons (pe_int) pa_nil)))))), ?_⟩
    refine ⟨_, rfl, _, rfl, _, _, rfl, hs, fun q hq => ?_⟩
    refine ⟨_, _, rfl, .inl (SqL.of upd_same), fun c hc => ?_⟩
    refine ⟨(by show 3 ≤ sizeLine; decide), fun p hp => ?_⟩
    have e : cutV (ns.map V.int) none (some 63) = ns.map V.int := by
      have l : (ns.map V.int).length ≤ 63 := by rw [List.length_map]; exact hlen
      have q : cutV (ns.map V.int) none (some 63) = ((ns.map V.int).drop (HT.sIx (ns.map V.int).length 0 none)).take
          (HT.sIx (ns.map V.int).length (ns.map V.int).length (some ((63 : Nat) : Int)) - HT.sIx (ns.map V.int).length 0 none) := rfl
      rw [q, HT.sIx_nat, HT.sIx_none, List.drop_zero]
      exact List.take_of_length_le (by omega)
    have hH : H p = none := (Same.trans (Same.new hq) (Same.new hc)).free hp
    refine k p c _ hH ((Same.new hq).free hc) ((Same.new hq).trans ((Same.new hc).trans (Same.new hp))) ⟨0, 0, upd_same, ?_, ?_, by omega, by omega⟩
    · refine upd_new hp ?_
      rw [upd_same, e]
    · intro z
      rw [z, upd_same] at hp
      cases hp
def spPick : Sp := fun vs H Q _ => ∃ (p c l : Addr) (xs : List V) (ns : List Int) (n : Nat),
  vs = [.ref p, .ref l] ∧ PenAt H p c ns n ∧ ns.length ≤ 63 ∧ H l = some (.lst xs) ∧ l ≠ p ∧ 0 < xs.length ∧
  xs.length < 1000000 ∧ n < 1000000 ∧
  ∀ (v : V) (H' : Hp), v ∈ xs → PenAt H' p c ns (n + 1) → But p H H' → Q v H'
theorem kp_pick (T : Txt K mg) : Kf P w K mg base 2 "_law_pick" ["_law_pen_here", "_law_some"] spPick := by
  refine T.d_pick.okF sc_lpick (fun vs H Q E h => ?_) (fun f cdv A outer s H vs Q E hA hr h => ?_)
  · obtain ⟨p, c, l, xs, ns, n, rfl, _⟩ := h
    rfl
  · obtain ⟨p, c, l, xs, ns, n, rfl, hp, hlen, hl, ne, h0, h1, hn, k⟩ := h
    refine ⟨_, (pss_one (ps_ret (pe_ix (ix_list : IxR _ (rIxL K)) (pv 1) (pe_kf (kp_draw T) hA hr (by rfl) (pa_cons (pv 0) (pa_cons (pe_callB call_len (by rfl) (T.nb _ (by decide)) PySem.boot_len (pa_cons (pv 1) pa_nil)) pa_nil))) (fun _ _ => rfl)))), ?_⟩
    refine ⟨_, rfl, _, rfl, _, rfl, _, _, rfl, len_lst hl, ?_⟩
    refine ⟨p, c, _, ns, n, rfl, hp, hlen, by omega, by omega, hn, fun r H' r0 r1 hp' hb => ?_⟩
    obtain ⟨x, hx, hm⟩ := at_in (xs := xs) r0 (by omega)
    exact ⟨_, _, _, _, rfl, rfl, SqL.of (hb l ne _ hl), hx, k x H' hm hp' hb⟩
end
end KC
namespace KC
open PySem L2
def abcN : List Nat := [97, 98, 99, 100, 101, 102, 103, 104, 105, 106, 107, 108, 109, 110, 111, 112, 113, 114, 115, 116, 117, 118, 119, 120, 121, 122]
theorem ascii_row : ∀ c : Fin 128, Unicode.isAlpha c.1 = true → (Unicode.isUpper c.1 || Unicode.isTitle c.1) = false → c.1 ∈ abcN := by decide +kernel
theorem abc_row : ∀ c ∈ abcN, (decide (c < 128) && (Unicode.isAlpha c && (Unicode.isLower c && !(Unicode.isUpper c || Unicode.isTitle c)))) = true := by decide +kernel
theorem lower_all {s : Str} (h : s.cps.toList ≠ []) : (Txt.isascii s && (Txt.isalpha s && Txt.islower s)) = s.cps.toList.all (fun c => decide (c ∈ abcN)) := by
  unfold Txt.isascii Txt.isalpha Txt.islower
  rw [← Array.all_toList, ← Array.all_toList, ← Array.any_toList, ← Array.any_toList]
  have hl : decide (s.length > 0) = true := by
    refine decide_eq_true ?_
    unfold Str.length
    rw [← Array.length_toList]
    exact List.length_pos_iff.mpr h
  rw [hl, Bool.true_and]
  revert h
  generalize s.cps.toList = l
  intro h
  rw [Bool.eq_iff_iff]
  simp only [Bool.and_eq_true, List.all_eq_true, List.any_eq_true, decide_eq_true_eq, Bool.not_eq_true', List.any_eq_false]
  constructor
  · rintro ⟨ha, hb, _, hc⟩ c m
    exact ascii_row ⟨c, ha c m⟩ (hb c m) (by simpa using hc c m)
  · intro k
    have r : ∀ c ∈ l, c < 128 ∧ Unicode.isAlpha c = true ∧ Unicode.isLower c = true ∧ (Unicode.isUpper c || Unicode.isTitle c) = false := by
      intro c m
      have := abc_row c (k c m)
      simp only [Bool.and_eq_true, decide_eq_true_eq, Bool.not_eq_true'] at this
      exact this
    refine ⟨fun c m => (r c m).1, fun c m => (r c m).2.1, ?_, fun c m => by simpa using (r c m).2.2.2⟩
    obtain ⟨c, hc⟩ := List.exists_mem_of_ne_nil l h
    exact ⟨c, hc, (r c hc).2.2.1⟩
def abc : Str := "abcdefghijklmnopqrstuvwxyz"
/-- letters alone, from lo to hi of them -/
def okL (lo hi : Nat) (s : Str) : Bool := decide (lo ≤ s.length) && (decide (s.length ≤ hi) && s.cps.toList.all fun c => decide (c ∈ abc.cps.toList))
abbrev isName (s : Str) : Bool := okL 1 8 s
abbrev isLet (s : Str) : Bool := okL 1 1 s
abbrev isAns (s : Str) : Bool := okL 0 4 s
abbrev isTxt (s : Str) : Bool := okL 0 400 s
section
variable {P : Program} {w : World} {K : PySem.W.Frag} {mg : Str → Option Value} {base : Heap}
def spL (K : PySem.W.Frag) (lo hi : Nat) (v : V) (H : Hp) (Q : VK) : Prop :=
  (∃ s : Str, v = .str s ∧ s.length ≤ 10000 ∧ ∀ H', Same H H' → Q (.bl (okL lo hi s)) H') ∨
  (∃ t, TyOf K H v t ∧ PySem.W.kitOne K t (.type "str") = some false ∧ Q (.bl false) H)
theorem spL.mono {lo hi : Nat} {v : V} {H : Hp} {Q Q' : VK} (h : spL K lo hi v H Q) (m : ∀ u H', Same H H' → Q u H' → Q' u H') : spL K lo hi v H Q' := by
  rcases h with ⟨s, e, z, k⟩ | ⟨t, ty, e, k⟩
  · exact .inl ⟨s, e, z, fun H' s' => m _ _ s' (k H' s')⟩
  · exact .inr ⟨t, ty, e, m _ _ (fun _ _ h => h) k⟩
def spLetters (K : PySem.W.Frag) : Sp := fun vs H Q _ => ∃ (v : V) (lo hi : Nat), vs = [v, .int lo, .int hi] ∧ spL K lo hi v H Q
theorem kp_letters (T : Txt K mg) : Kf P w K mg base 1 "is_letters" ["value", "least", "most"] (spLetters K) := by
  refine T.d_iletters.okF sc_iletters (fun vs H Q E h => ?_) (fun f cdv A outer s H vs Q E hA hr h => ?_)
  · obtain ⟨v, lo, hi, rfl, _⟩ := h
    rfl
  · obtain ⟨v, lo, hi, rfl, h⟩ := h
    refine ⟨_, (pss_cons (ps_if (PW.pt (pw_or (pt_not (pt_val (pe_callB call_isi (by rfl) (T.nb _ (by decide)) (by decide +kernel) (pa_cons (pv 0) (pa_cons (pe_bltn (v := .ty "str") (by rfl) (T.nb _ (by decide)) (by decide +kernel) rfl) pa_nil))))) (pw_or (pt_cmpR op_lt (pe_callB call_len (by rfl) (T.nb _ (by decide)) PySem.boot_len (pa_cons (pv 0) pa_nil)) (pv 1) (nomark _)) (pw_or1 (pt_cmpR op_gt (pe_callB call_len (by rfl) (T.nb _ (by decide)) PySem.boot_len (pa_cons (pv 0) pa_nil)) (pv 2) (nomark _))))))
 (pss_one (ps_ret (pe_bl))) pss_nil)
 (pss_one (ps_ret ((pe_or (pe_cmpR op_eq (pv 0) (pe_str) (nomark _)) (pe_one ((pe_and (pe_m0 PySem.F.slot_str_isascii PySem.F.type_str_isascii mt_isascii (pv 0)) (pe_and (pe_m0 PySem.F.slot_str_isalpha PySem.F.type_str_isalpha mt_isalpha (pv 0)) (pe_one (pe_m0 PySem.F.slot_str_islower PySem.F.type_str_islower mt_islower (pv 0)))))))))))), ?_⟩
    rcases h with ⟨z, rfl, hz, k⟩ | ⟨t, ty, ht, k⟩
    · refine ⟨_, rfl, .str z, _, _, _, true, rfl, .ty "str", .base (.str z), kit_ty (by decide +kernel), _, rfl, iteF ?_⟩
      refine ⟨_, rfl, .str z, _, rfl, ⟨Nat.le_trans hz (by decide), rfl⟩, _, rfl, _, _, rfl, rfl, _, rfl, ?_⟩
      unfold okL at k
      refine ite2 (fun c => ?_) (fun c => ?_)
      · have c' : ¬ lo ≤ z.length := by
          have := of_decide_eq_true c
          omega
        rw [decide_eq_false c'] at k
        exact k H (fun _ _ h => h)
      have c1 : lo ≤ z.length := by
        have : ¬ ((z.length : Int) < lo) := fun q => c (decide_eq_true q)
        omega
      rw [decide_eq_true c1] at k
      refine ⟨_, rfl, .str z, _, rfl, ⟨Nat.le_trans hz (by decide), rfl⟩, _, rfl, _, _, rfl, rfl, _, rfl, ?_⟩
      refine ite2 (fun c => ?_) (fun c => ?_)
      · have c' : ¬ z.length ≤ hi := by
          have := of_decide_eq_true c
          omega
        rw [decide_eq_false c'] at k
        exact k H (fun _ _ h => h)
      have c2 : z.length ≤ hi := by
        have : ¬ ((hi : Int) < z.length) := fun q => c (decide_eq_true q)
        omega
      rw [decide_eq_true c2] at k
      have fin : ∀ b, b = (z.cps.toList.all fun c => decide (c ∈ abc.cps.toList)) → Q (.bl b) H := fun b e => by
        rw [e]
        exact k H (fun _ _ h => h)
      by_cases n : z.cps.toList = []
      · have e0 : z = "" := by
          cases z
          exact congrArg Str.mk (Array.toList_inj.mp n)
        subst e0
        exact ⟨_, rfl, rfl, true, rfl, fin _ (by decide)⟩
      · have e0 : decide (V.str z = V.str (Str.ofString "")) = false := decide_eq_false fun e => n (by rw [V.str.inj e]; rfl)
        refine ⟨_, rfl, rfl, false, congrArg V.bl e0, _, rfl, ?_⟩
        have e1 := lower_all n
        have e2 : (fun c => decide (c ∈ abcN)) = (fun c : Nat => decide (c ∈ abc.cps.toList)) := rfl
        rw [e2] at e1
        refine ⟨⟨z, rfl⟩, z, rfl, rfl, trivial, _, rfl, ?_⟩
        refine ite2 (fun c1 => ?_) (fun c1 => ?_)
        · rw [c1, Bool.true_and] at e1
          refine ⟨_, rfl, ⟨z, rfl⟩, z, rfl, rfl, trivial, _, rfl, ?_⟩
          refine ite2 (fun c2 => ?_) (fun c2 => ?_)
          · rw [c2, Bool.true_and] at e1
            exact ⟨_, rfl, ⟨z, rfl⟩, z, rfl, rfl, trivial, fin _ e1⟩
          · rw [eq_false_of_ne_true c2, Bool.false_and] at e1
            exact fin _ e1
        · rw [eq_false_of_ne_true c1, Bool.false_and] at e1
          exact fin _ e1
    · exact ⟨_, rfl, v, _, _, _, false, rfl, .ty "str", .base ty, ht, _, rfl, iteT k⟩
def spL1 (K : PySem.W.Frag) (lo hi : Nat) : Sp := fun vs H Q _ => ∃ v, vs = [v] ∧ spL K lo hi v H Q
theorem kp_letter (T : Txt K mg) : Kf P w K mg base 2 "is_letter" ["value"] (spL1 K 1 1) := by
  refine T.d_iletter.okF sc_iletter (fun vs H Q E h => ?_) (fun f cdv A outer s H vs Q E hA hr h => ?_)
  · obtain ⟨v, rfl, _⟩ := h
    rfl
  · obtain ⟨v, rfl, h⟩ := h
    exact ⟨_, (pss_one (ps_ret (pe_kf (kp_letters T) hA hr (by rfl) (pa_cons (pv 0) (pa_cons (pe_int) (pa_cons (pe_int) pa_nil)))))), ⟨_, rfl, v, 1, 1, rfl, h⟩⟩
theorem kp_name (T : Txt K mg) : Kf P w K mg base 2 "is_name" ["value"] (spL1 K 1 8) := by
  refine T.d_iname.okF sc_iname (fun vs H Q E h => ?_) (fun f cdv A outer s H vs Q E hA hr h => ?_)
  · obtain ⟨v, rfl, _⟩ := h
    rfl
  · obtain ⟨v, rfl, h⟩ := h
    exact ⟨_, (pss_one (ps_ret (pe_kf (kp_letters T) hA hr (by rfl) (pa_cons (pv 0) (pa_cons (pe_int) (pa_cons (pe_cst (by rfl) T.cs_name) pa_nil)))))), ⟨_, rfl, v, 1, 8, rfl, h⟩⟩
theorem kp_answer (T : Txt K mg) : Kf P w K mg base 2 "is_answer" ["value"] (spL1 K 0 4) := by
  refine T.d_ianswer.okF sc_ianswer (fun vs H Q E h => ?_) (fun f cdv A outer s H vs Q E hA hr h => ?_)
  · obtain ⟨v, rfl, _⟩ := h
    rfl
  · obtain ⟨v, rfl, h⟩ := h
    exact ⟨_, (pss_one (ps_ret (pe_kf (kp_letters T) hA hr (by rfl) (pa_cons (pv 0) (pa_cons (pe_int) (pa_cons (pe_cst (by rfl) T.cs_answer) pa_nil)))))), ⟨_, rfl, v, 0, 4, rfl, h⟩⟩
theorem kp_text (T : Txt K mg) : Kf P w K mg base 2 "is_text" ["value"] (spL1 K 0 400) := by
  refine T.d_itext.okF sc_itext (fun vs H Q E h => ?_) (fun f cdv A outer s H vs Q E hA hr h => ?_)
  · obtain ⟨v, rfl, _⟩ := h
    rfl
  · obtain ⟨v, rfl, h⟩ := h
    exact ⟨_, (pss_one (ps_ret (pe_kf (kp_letters T) hA hr (by rfl) (pa_cons (pv 0) (pa_cons (pe_int) (pa_cons (pe_cst (by rfl) T.cs_text) pa_nil)))))), ⟨_, rfl, v, 0, 400, rfl, h⟩⟩
end
end KC
namespace KC
open PySem L2
abbrev StE := (Str × Str) × (Str × Str)
def stK (e : StE) : List Key := [.inr e.1.1, .inr e.1.2]
/-- the steps of a dict with pairs as keys -/
def StK (K : PySem.W.Frag) (H : Hp) (kvs : List (List Key × V)) (st : List StE) : Prop :=
  kvs.map (·.1) = st.map stK ∧ ∀ (i : Nat) (e : StE), st[i]? = some e → ∃ q, kvs[i]? = some (stK e, .ref q) ∧ SqT K H q [.str e.2.1, .str e.2.2]
theorem StK.same {K : PySem.W.Frag} {H H' : Hp} {kvs : List (List Key × V)} {st : List StE} (h : StK K H kvs st) (s : Same H H') : StK K H' kvs st :=
  ⟨h.1, fun i e he => let ⟨q, a, b⟩ := h.2 i e he; ⟨q, a, b.ext s⟩⟩
theorem StK.len {K : PySem.W.Frag} {H : Hp} {kvs : List (List Key × V)} {st : List StE} (h : StK K H kvs st) : kvs.length = st.length := by
  have := congrArg List.length h.1
  simpa using this
def tlKv (e : Str × Str) : Key × V := (.inr e.1, .str e.2)
theorem sqT_ty {K : PySem.W.Frag} {H : Hp} {a : Addr} {xs : List V} (h : SqT K H a xs) : TyX K H (.ref a) (.type "tuple") := by
  rcases h with (h | ⟨o, h⟩) | ⟨o, _, _, h, c, _⟩
  · exact .base (.tup h)
  · exact .fTuple h
  · exact .kTuple h c
/-- a name that is there once is found -/
theorem valV_at {κ : Type} [DecidableEq κ] : ∀ {kvs : List (κ × V)} {i : Nat} {k : κ} {v : V}, (kvs.map (·.1)).Nodup → kvs[i]? = some (k, v) → valV kvs k = some v
  | [], i, k, v, _, h => by simp at h
  | p :: r, 0, k, v, _, h => by
    simp at h
    subst h
    exact valV_pos rfl
  | p :: r, i + 1, k, v, nd, h => by
    simp at h
    rw [List.map_cons, List.nodup_cons] at nd
    have : ¬ p.1 = k := by
      intro z
      refine nd.1 ?_
      rw [z]
      exact List.mem_map.mpr ⟨(k, v), List.mem_of_getElem? h, rfl⟩
    rw [valV_neg this]
    exact valV_at nd.2 h
section
variable {P : Program} {w : World} {K : PySem.W.Frag} {mg : Str → Option Value} {base : Heap}
def spPair (K : PySem.W.Frag) : Sp := fun vs H Q _ => ∃ (a : Addr) (xs : List V), vs = [.ref a] ∧ SqT K H a xs ∧ Q (.bl (decide (xs.length = 2))) H
theorem kp_pair (T : Txt K mg) : Kf P w K mg base 1 "is_pair" ["value"] (spPair K) := by
  refine T.d_ipair.okF sc_ipair (fun vs H Q E h => ?_) (fun f cdv A outer s H vs Q E hA hr h => ?_)
  · obtain ⟨a, xs, rfl, _⟩ := h
    rfl
  · obtain ⟨a, xs, rfl, hs, k⟩ := h
    refine ⟨_, (pss_one (ps_ret ((pe_and (pe_callB call_isi (by rfl) (T.nb _ (by decide)) (by decide +kernel) (pa_cons (pv 0) (pa_cons (pe_bltn (v := .ty "tuple") (by rfl) (T.nb _ (by decide)) (by decide +kernel) rfl) pa_nil))) (pe_one (pe_cmpR op_eq (pe_callB call_len (by rfl) (T.nb _ (by decide)) PySem.boot_len (pa_cons (pv 0) pa_nil)) (pe_int) (nomark _))))))), ?_⟩
    refine ⟨_, rfl, .ref a, _, _, _, true, rfl, .ty "tuple", sqT_ty hs, kit_ty (by decide +kernel), _, rfl, iteT ?_⟩
    refine ⟨_, rfl, .ref a, _, rfl, .inr ⟨_, hs, rfl⟩, rfl, ?_⟩
    have e : decide (V.int (xs.length : Int) = V.int 2) = decide (xs.length = 2) := by
      rw [decide_eq_decide]
      exact ⟨fun z => by have := V.int.inj z; omega, fun z => by rw [z]; rfl⟩
    show Q (.bl (decide (V.int (xs.length : Int) = V.int 2))) H
    rw [e]
    exact k
def spGoal (K : PySem.W.Frag) : Sp := fun vs H Q _ => ∃ (a : Addr) (x y : Str), vs = [.ref a] ∧ SqT K H a [.str x, .str y] ∧ isAns x = true ∧ isName y = true ∧ x.length ≤ 10000 ∧ y.length ≤ 10000 ∧ ∀ H', Same H H' → Q (.bl true) H'
theorem kp_goal (T : Txt K mg) : Kf P w K mg base 3 "is_goal" ["value"] (spGoal K) := by
  refine T.d_igoal.okF sc_igoal (fun vs H Q E h => ?_) (fun f cdv A outer s H vs Q E hA hr h => ?_)
  · obtain ⟨a, x, y, rfl, _⟩ := h
    rfl
  · obtain ⟨a, x, y, rfl, hs, hx, hy, lx, ly, k⟩ := h
    refine ⟨_, (pss_one (ps_ret ((pe_and (pe_kf (kp_pair T) hA hr (by rfl) (pa_cons (pv 0) pa_nil)) (pe_and (pe_kf (kp_answer T) hA hr (by rfl) (pa_cons (pe_ix (ix_tup : IxR _ (rIxT K)) (pv 0) (pe_int) (fun _ _ => rfl)) pa_nil)) (pe_one (pe_kf (kp_name T) hA hr (by rfl) (pa_cons (pe_ix (ix_tup : IxR _ (rIxT K)) (pv 0) (pe_int) (fun _ _ => rfl)) pa_nil)))))))), ?_⟩
    refine ⟨_, rfl, a, _, rfl, hs, _, rfl, iteT ?_⟩
    refine ⟨_, rfl, _, _, _, _, rfl, rfl, hs, rfl, .str x, rfl, .inl ⟨x, rfl, lx, fun H1 s1 => ?_⟩⟩
    rw [show okL 0 4 x = true from hx]
    refine ⟨_, rfl, iteT ?_⟩
    refine ⟨_, rfl, _, _, _, _, rfl, rfl, hs.ext s1, rfl, .str y, rfl, .inl ⟨y, rfl, ly, fun H2 s2 => ?_⟩⟩
    rw [show okL 1 8 y = true from hy]
    exact k _ (s1.trans s2)
def okStep (e : StE) : Prop := isName e.1.1 = true ∧ isLet e.1.2 = true ∧ isAns e.2.1 = true ∧ isName e.2.2 = true
theorem okL_len {lo hi : Nat} {s : Str} (h : okL lo hi s = true) (hh : hi ≤ 10000) : s.length ≤ 10000 := by
  unfold okL at h
  simp only [Bool.and_eq_true, decide_eq_true_eq] at h
  omega
def spSteps (K : PySem.W.Frag) : Sp := fun vs H Q _ => ∃ (d : Addr) (kvs : List (List Key × V)) (st : List StE), vs = [.ref d] ∧ H d = some (.dT kvs) ∧ StK K H kvs st ∧ (kvs.map (·.1)).Nodup ∧
  (∀ e ∈ st, okStep e) ∧ st.length ≤ 1000 ∧ ∀ H', Same H H' → Q (.bl true) H'
theorem sqT_lock {K : PySem.W.Frag} {H : Hp} {d a : Addr} {xs : List V} {kvs : List (List Key × V)} {o : Obj} (hd : H d = some (.dT kvs)) (h : SqT K H a xs) : SqT K (upd H d (.frz o (.dT kvs))) a xs := by
  have ne : ∀ u, H a = some u → u ≠ .dT kvs → upd H d (.frz o (.dT kvs)) a = some u := fun u e n => upd_oth (fun z => n (by rw [z, hd] at e; exact (Option.some.inj e).symm)) e
  rcases h with (h | ⟨o', h⟩) | h
  · exact .inl (.inl (ne _ h (fun z => by cases z)))
  · exact .inl (.inr ⟨o', ne _ h (fun z => by cases z)⟩)
  · exact .inr h
theorem StK.lock {K : PySem.W.Frag} {H : Hp} {d : Addr} {kvs : List (List Key × V)} {st : List StE} {o : Obj} (hd : H d = some (.dT kvs)) (h : StK K H kvs st) : StK K (upd H d (.frz o (.dT kvs))) kvs st :=
  ⟨h.1, fun i e he => let ⟨q, a, b⟩ := h.2 i e he; ⟨q, a, sqT_lock hd b⟩⟩
theorem unlock_same {H H' : Hp} {d : Addr} {u u' : HO} (hd : H d = some u) (s : Same (upd H d u') H') : Same H (upd H' d u) := by
  intro b o e
  by_cases z : b = d
  · subst z
    rw [hd] at e
    cases e
    exact upd_same
  · exact upd_oth z (s _ _ (upd_oth z e))
theorem kp_steps (T : Txt K mg) : Kf P w K mg base 4 "are_steps" ["steps"] (spSteps K) := by
  refine T.d_asteps.okF sc_asteps (fun vs H Q E h => ?_) (fun f cdv A outer s H vs Q E hA hr h => ?_)
  · obtain ⟨d, kvs, st, rfl, _⟩ := h
    rfl
  · obtain ⟨d, kvs, st, rfl, hd, hst, nd, ok, len, k⟩ := h
    refine ⟨_, (pss_cons (ps_if (pt_not (pt_val (pe_callB call_isi (by rfl) (T.nb _ (by decide)) (by decide +kernel) (pa_cons (pv 0) (pa_cons (pe_bltn (v := .ty "dict") (by rfl) (T.nb _ (by decide)) (by decide +kernel) rfl) pa_nil)))))
 (pss_one (ps_ret (pe_bl))) pss_nil)
 (pss_cons (ps_lock (ps_for PassesOwn.never rfl (pi_keys (pv 0)) (pg_name (i := 1) sc_asteps.nd rfl (Or.inl rfl))
 (pss_one (ps_if (PW.pt (pw_or (pt_not (pt_val (pe_kf (kp_pair T) hA hr (by rfl) (pa_cons (pv 1) pa_nil)))) (pw_or (pt_not (pt_val (pe_kf (kp_name T) hA hr (by rfl) (pa_cons (pe_ix (ix_tup : IxR _ (rIxT K)) (pv 1) (pe_int) (fun _ _ => rfl)) pa_nil)))) (pw_or (pt_not (pt_val (pe_kf (kp_letter T) hA hr (by rfl) (pa_cons (pe_ix (ix_tup : IxR _ (rIxT K)) (pv 1) (pe_int) (fun _ _ => rfl)) pa_nil)))) (pw_or1 (pt_not (pt_val (pe_kf (kp_goal T) hA hr (by rfl) (pa_cons (pe_dget (hu_of hr) (pv 0) (pv 1) (fun _ _ => rfl)) pa_nil)))))))))
 (pss_one (ps_ret (pe_bl))) pss_nil))))
 (pss_one (ps_ret (pe_bl))))), ?_⟩
    refine ⟨_, rfl, .ref d, _, _, _, true, rfl, .ty "dict", .base (.dT hd), kit_ty (by decide +kernel), _, rfl, iteF ?_⟩
    refine ⟨d, _, hd, trivial, fun od => ?_⟩
    have hl : upd H d (.frz od (.dT kvs)) d = some (.frz od (.dT kvs)) := upd_same
    have hst' := hst.lock (o := od) hd
    generalize hHL : upd H d (.frz od (.dT kvs)) = HL at hl hst'
    refine ⟨_, rfl, d, od, rfl, .inr ⟨kvs, hl, ?_⟩⟩
    refine for_it (walk_keysT (d := d) (o := od) (kvs := kvs)) (fun i σ H' => (∃ v, σ = [some (.ref d), v]) ∧ Same HL H') ⟨⟨_, rfl⟩, fun _ _ h => h⟩ (fun i σ H' _ p => p.2 _ _ hl) ?_ ?_
    · rintro i x σ H1 H2 hi ⟨⟨v, rfl⟩, sm⟩ ⟨rfl, k0, v0, q, e0, rfl, hq⟩
      have hi' : i < st.length := by rw [hst.len] at hi; exact hi
      obtain ⟨e, he⟩ : ∃ e, st[i]? = some e := ⟨_, List.getElem?_eq_getElem hi'⟩
      obtain ⟨qv, h1, h2⟩ := (hst'.same sm).2 i e he
      rw [h1] at e0
      obtain ⟨rfl, rfl⟩ := Prod.mk.inj (Option.some.inj e0)
      obtain ⟨o1, o2, o3, o4⟩ := ok e (List.mem_of_getElem? he)
      have hq' : H2 q = some (.tup [.str e.1.1, .str e.1.2]) := hq
      dsimp only [gName]
      refine ⟨_, rfl, q, _, rfl, SqT.of hq', _, rfl, iteF ?_⟩
      refine ⟨_, rfl, _, _, _, _, rfl, rfl, SqT.of hq', rfl, .str e.1.1, rfl, .inl ⟨_, rfl, okL_len o1 (by decide), fun H3 s3 => ?_⟩⟩
      rw [show okL 1 8 e.1.1 = true from o1]
      refine ⟨_, rfl, iteF ?_⟩
      refine ⟨_, rfl, _, _, _, _, rfl, rfl, SqT.of (s3 _ _ hq'), rfl, .str e.1.2, rfl, .inl ⟨_, rfl, okL_len o2 (by decide), fun H4 s4 => ?_⟩⟩
      rw [show okL 1 1 e.1.2 = true from o2]
      refine ⟨_, rfl, iteF ?_⟩
      have s34 := s3.trans s4
      refine ⟨_, rfl, _, rfl, d, .ref qv, rfl, .inr ⟨kvs, stK e, q, .inr ⟨od, (sm.trans s34) _ _ hl⟩, rfl, s34 _ _ hq', (valV_at nd h1).symm⟩, ?_⟩
      refine ⟨qv, _, _, rfl, (h2.ext s34), o3, o4, okL_len o3 (by decide), okL_len o4 (by decide), fun H5 s5 => ⟨_, rfl, iteF ?_⟩⟩
      exact ⟨⟨_, rfl⟩, (sm.trans s34).trans s5⟩
    · rintro σ H' ⟨⟨v, rfl⟩, sm⟩
      refine ⟨sm _ _ hl, ?_⟩
      refine k _ (unlock_same (u' := .frz od (.dT kvs)) hd ?_)
      rw [hHL]
      exact sm
def okTail (e : Str × Str) : Prop := isName e.1 = true ∧ isAns e.2 = true
def spTails (K : PySem.W.Frag) : Sp := fun vs H Q _ => ∃ (d : Addr) (tl : List (Str × Str)), vs = [.ref d] ∧ H d = some (.dK (tl.map tlKv)) ∧ (tl.map (·.1)).Nodup ∧
  (∀ e ∈ tl, okTail e) ∧ tl.length ≤ 1000 ∧ ∀ H', Same H H' → Q (.bl true) H'
theorem tl_nd {tl : List (Str × Str)} (h : (tl.map (·.1)).Nodup) : ((tl.map tlKv).map (·.1)).Nodup := by
  rw [List.map_map]
  have e : ((fun (p : Key × V) => p.1) ∘ tlKv) = (fun s : Str => (Sum.inr s : Key)) ∘ (fun p : Str × Str => p.1) := rfl
  rw [e, ← List.map_map]
  exact List.pairwise_map.mpr (List.Pairwise.imp (fun n z => n (Sum.inr.inj z)) h)
theorem kp_tails (T : Txt K mg) : Kf P w K mg base 3 "are_tails" ["tails"] (spTails K) := by
  refine T.d_atails.okF sc_atails (fun vs H Q E h => ?_) (fun f cdv A outer s H vs Q E hA hr h => ?_)
  · obtain ⟨d, tl, rfl, _⟩ := h
    rfl
  · obtain ⟨d, tl, rfl, hd, nd, ok, len, k⟩ := h
    refine ⟨_, (pss_one (ps_ret ((pe_and (pe_callB call_isi (by rfl) (T.nb _ (by decide)) (by decide +kernel) (pa_cons (pv 0) (pa_cons (pe_bltn (v := .ty "dict") (by rfl) (T.nb _ (by decide)) (by decide +kernel) rfl) pa_nil))) (pe_one (pe_callB (cr_all rfl) (by rfl) (T.nb _ (by decide)) (by decide +kernel) (pa_cons (pe_lock (pe_lc (own := [("name", 1)]) (g := gName 1) (tt := tYes) rfl sc_atails.nd (pi_keys (pv 0)) (blkOk_by (N := n_atails) (sc := defScope s_atails) (by decide +kernel)) (fun _ _ _ _ _ => pg_name (i := 1) sc_atails.nd rfl (Or.inl rfl)) (fun _ _ _ _ _ => pts_nil) (fun _ _ _ _ _ => ((pe_and (pe_kf (kp_name T) hA hr (by rfl) (pa_cons (pv 1) pa_nil)) (pe_one (pe_kf (kp_answer T) hA hr (by rfl) (pa_cons (pe_dget (hu_of hr) (pv 0) (pv 1) (fun _ _ => rfl)) pa_nil)))))))) pa_nil))))))), ?_⟩
    refine ⟨_, rfl, .ref d, _, _, _, true, rfl, .ty "dict", .base (.dK hd), kit_ty (by decide +kernel), _, rfl, iteT ?_⟩
    refine ⟨d, _, hd, trivial, fun od => ?_⟩
    have hl : upd H d (.frz od (.dK (tl.map tlKv))) d = some (.frz od (.dK (tl.map tlKv))) := upd_same
    generalize hHL : upd H d (.frz od (.dK (tl.map tlKv))) = HL at hl
    refine ⟨_, rfl, d, od, rfl, .inl ⟨_, hl, fun D hD => ?_⟩⟩
    refine lc_it (walk_keys (d := d) (o := od) (kvs := tl.map tlKv)) (fun i H' => Same HL H' ∧ H' D = some (.lst (List.replicate i (.bl true)))) ⟨Same.new hD, upd_same⟩ (fun i H' _ p => p.1 _ _ hl) ?_ ?_
    · rintro i x H1 H2 hi ⟨sm, hDl⟩ ⟨rfl, k0, v0, e0, rfl⟩
      rw [List.length_map] at hi
      obtain ⟨e, he⟩ : ∃ e, tl[i]? = some e := ⟨_, List.getElem?_eq_getElem hi⟩
      rw [List.getElem?_map, he] at e0
      obtain ⟨rfl, rfl⟩ := Prod.mk.inj (Option.some.inj e0)
      obtain ⟨o1, o2⟩ := ok e (List.mem_of_getElem? he)
      refine ⟨rfl, yes_run ?_⟩
      refine ⟨_, rfl, .str e.1, rfl, .inl ⟨_, rfl, okL_len o1 (by decide), fun H3 s3 => ?_⟩⟩
      rw [show okL 1 8 e.1 = true from o1]
      refine ⟨_, rfl, iteT ?_⟩
      refine ⟨_, rfl, _, rfl, d, .str e.2, rfl, .inl ⟨_, .inr e.1, .inr ⟨od, (sm.trans s3) _ _ hl⟩, rfl, (valV_at (tl_nd nd) (i := i) ?_).symm⟩, ?_⟩
      · rw [List.getElem?_map, he]
        rfl
      refine ⟨.str e.2, rfl, .inl ⟨_, rfl, okL_len o2 (by decide), fun H4 s4 => ?_⟩⟩
      rw [show okL 0 4 e.2 = true from o2]
      have s34 := s3.trans s4
      refine ⟨_, s34 _ _ hDl, ?_, ?_, ?_⟩
      · rw [List.length_replicate]
        exact Nat.lt_of_lt_of_le (Nat.lt_of_lt_of_le hi len) (by decide)
      · intro b o e
        have := (sm.trans s34) _ _ e
        by_cases z : b = D
        · subst z
          rw [hD] at e
          cases e
        · exact upd_oth z this
      · rw [upd_same, List.replicate_succ']
    · rintro H' ⟨sm, hDl⟩
      rw [List.length_map] at hDl
      refine ⟨sm _ _ hl, D, List.replicate tl.length true, rfl, ?_, ?_⟩
      · rw [List.map_replicate]
        exact SqL.of (upd_oth (fun z => by rw [z, hl] at hD; cases hD) hDl)
      · rw [show (List.replicate tl.length true).all id = true by simp]
        refine k _ (unlock_same (u' := .frz od (.dK (tl.map tlKv))) hd ?_)
        rw [hHL]
        exact sm
end
end KC
namespace KC
open PySem L2 PyProof.Rows
/-- behind the others, if it isn't there -/
def addN (l : List Str) (x : Str) : List Str := if x ∈ l then l else l ++ [x]
def nmKv (s : Str) : Key × V := (.inr s, .bl true)
theorem put_nm (l : List Str) (x : Str) : putK (l.map nmKv) (.inr x) (.bl true) = (addN l x).map nmKv := by
  unfold putK addN
  have e : ((l.map nmKv).any fun kv => decide (kv.1 = (Sum.inr x : Key))) = decide (x ∈ l) := by
    rw [List.any_map, Bool.eq_iff_iff, List.any_eq_true, decide_eq_true_eq]
    constructor
    · rintro ⟨y, hy, z⟩
      have : y = x := Sum.inr.inj (of_decide_eq_true z)
      rw [← this]
      exact hy
    · intro h
      exact ⟨x, h, decide_eq_true rfl⟩
  rw [e]
  by_cases h : x ∈ l
  · rw [if_pos (decide_eq_true h), if_pos h, List.map_map]
    refine List.map_congr_left fun y _ => ?_
    show (if (Sum.inr y : Key) = Sum.inr x then (Sum.inr y, V.bl true) else (Sum.inr y, V.bl true)) = (Sum.inr y, V.bl true)
    split <;> rfl
  · rw [if_neg (by simpa using h), if_neg h, List.map_append]
    rfl
def addS (l : List Str) (e : StE) : List Str := addN (addN l e.1.1) e.2.2
/-- the names, as they are come to -/
def namesOf (start : Str) (st : List StE) (tl : List (Str × Str)) : List Str := (tl.map (·.1)).foldl addN (st.foldl addS [start])
def lettersOf (st : List StE) : List Str := (st.map fun e => e.1.2).foldl addN []
theorem addN_len (l : List Str) (x : Str) : (addN l x).length ≤ l.length + 1 := by
  unfold addN
  split
  · omega
  · simp
theorem foldN_len : ∀ (xs : List Str) (l : List Str), (xs.foldl addN l).length ≤ l.length + xs.length
  | [], l => by simp
  | x :: xs, l => by
    rw [List.foldl_cons, List.length_cons]
    have := foldN_len xs (addN l x)
    have := addN_len l x
    omega
theorem foldS_len : ∀ (xs : List StE) (l : List Str), (xs.foldl addS l).length ≤ l.length + 2 * xs.length
  | [], l => by simp
  | x :: xs, l => by
    rw [List.foldl_cons, List.length_cons]
    have := foldS_len xs (addS l x)
    have h1 := addN_len (addN l x.1.1) x.2.2
    have h2 := addN_len l x.1.1
    unfold addS at *
    omega
theorem take_fold {α : Type} {xs : List α} {i : Nat} {x : α} (h : xs[i]? = some x) {β : Type} (f : β → α → β) (b : β) : (xs.take (i + 1)).foldl f b = f ((xs.take i).foldl f b) x := by
  rw [List.take_add_one, h, List.foldl_append]
  rfl
section
variable {P : Program} {w : World} {K : PySem.W.Frag} {mg : Str → Option Value} {base : Heap}
/-- an ascending tuple of these -/
def TupOf (H : Hp) (Q : VK) (xs : List Str) : Prop := ∀ (ys : List Str) (p : Addr) (H' : Hp), ys.Perm xs → sortedS ys = true → H p = none → Same H H' → H' p = some (.tup (ys.map V.str)) → Q (.ref p) H'
def spSnames (K : PySem.W.Frag) : Sp := fun vs H Q _ => ∃ (s : Str) (d t : Addr) (kvs : List (List Key × V)) (st : List StE) (tl : List (Str × Str)), vs = [.str s, .ref d, .ref t] ∧
  H d = some (.dT kvs) ∧ StK K H kvs st ∧ (kvs.map (·.1)).Nodup ∧ st.length ≤ 1000 ∧ H t = some (.dK (tl.map tlKv)) ∧ tl.length ≤ 1000 ∧ (namesOf s st tl).length < 64 ∧ TupOf H Q (namesOf s st tl)
theorem kp_snames (T : Txt K mg) : Kf P w K mg base 1 "state_names" ["start", "steps", "tails"] (spSnames K) := by
  refine T.d_snames.okF sc_snames (fun vs H Q E h => ?_) (fun f cdv A outer s H vs Q E hA hr h => ?_)
  · obtain ⟨s, d, t, kvs, st, tl, rfl, _⟩ := h
    rfl
  · obtain ⟨s, d, t, kvs, st, tl, rfl, hd, hst, nd, len, ht, tlen, n64, k⟩ := h
    refine ⟨_, (pss_cons (ps_set (i := 3) sc_snames.nd rfl (Or.inl rfl) (pe_disp (pps_cons (pv 0) (pe_bl) pps_nil) (by rfl) (by rfl) (fun z => by cases z) (by decide)))
 (pss_cons (ps_lock (ps_for PassesOwn.never rfl (pi_keys (pv 1)) (pg_tup rfl (pgs_cons (pg_name (i := 4) sc_snames.nd rfl (Or.inl rfl)) (pgs_cons (pg_name (i := 5) sc_snames.nd rfl (Or.inl rfl)) pgs_nil)))
 (pss_cons (ps_asg (pe_dget (hu_of hr) (pv 1) (pe_tup (pa_cons (pv 4) (pa_cons (pv 5) pa_nil))) (fun _ _ => rfl)) (pg_tup rfl (pgs_cons (pg_name (i := 6) sc_snames.nd rfl (Or.inl rfl)) (pgs_cons (pg_name (i := 7) sc_snames.nd rfl (Or.inl rfl)) pgs_nil))))
 (pss_cons (ps_asg (pe_bl) (pg_sub (pv 3) (pv 4) (set_dict (hu_of hr))))
 (pss_one (ps_asg (pe_bl) (pg_sub (pv 3) (pv 7) (set_dict (hu_of hr)))))))))
 (pss_cons (ps_lock (ps_for PassesOwn.never rfl (pi_keys (pv 2)) (pg_name (i := 4) sc_snames.nd rfl (Or.inl rfl))
 (pss_one (ps_asg (pe_bl) (pg_sub (pv 3) (pv 4) (set_dict (hu_of hr)))))))
 (pss_one (ps_ret (pe_callTy call_tuple_of (by rfl) (T.nb _ (by decide)) (by decide +kernel) (pa_cons (pe_callB cr_sortedS (by rfl) (T.nb _ (by decide)) (by decide +kernel) (pa_cons (pe_lock (pe_lc (own := [("name", 8)]) (g := gName 8) (tt := tYes) rfl sc_snames.nd (pi_keys (pv 3)) (blkOk_by (N := n_snames) (sc := defScope s_snames) (by decide +kernel)) (fun _ _ _ _ _ => pg_name (i := 8) sc_snames.nd rfl (Or.inl rfl)) (fun _ _ _ _ _ => pts_nil) (fun _ _ _ _ _ => (pe_callTy SkE.call_str_str (by rfl) (T.nb _ (by decide)) (by decide +kernel) (pa_cons (pv 8) pa_nil))))) pa_nil)) pa_nil))))))), ?_⟩
    refine fun nm hnm => ?_
    refine ⟨_, rfl, upd_same, [nmKv s], rfl, (by show 1 ≤ 15; decide), ?_⟩
    have e0 : upd (upd H nm (.dK [])) nm (.dK (mergeK [] [nmKv s])) = upd H nm (.dK ([s].map nmKv)) := upd_upd
    rw [e0]
    have ndm : nm ≠ d := fun z => by rw [z, hd] at hnm; cases hnm
    have ntm : nm ≠ t := fun z => by rw [z, ht] at hnm; cases hnm
    have dt : d ≠ t := fun z => by rw [z, ht] at hd; cases hd
    dsimp only [gName, tSeq, tAsg]
    have hd1 : upd H nm (.dK ([s].map nmKv)) d = some (.dT kvs) := upd_new hnm hd
    refine ⟨d, _, hd1, trivial, fun od => ?_⟩
    have hst1 : StK K (upd (upd H nm (.dK ([s].map nmKv))) d (.frz od (.dT kvs))) kvs st := (hst.same (Same.new hnm)).lock hd1
    have sm0 : Same H (upd (upd (upd H nm (.dK ([s].map nmKv))) d (.frz od (.dT kvs))) d (.dT kvs)) := (Same.new hnm).trans (unlock_same (u' := .frz od (.dT kvs)) hd1 (fun _ _ h => h))
    have hl : upd (upd H nm (.dK ([s].map nmKv))) d (.frz od (.dT kvs)) d = some (.frz od (.dT kvs)) := upd_same
    have hnm1 : upd (upd H nm (.dK ([s].map nmKv))) d (.frz od (.dT kvs)) nm = some (.dK ([s].map nmKv)) := upd_oth ndm upd_same
    have ht1 : upd (upd H nm (.dK ([s].map nmKv))) d (.frz od (.dT kvs)) t = some (.dK (tl.map tlKv)) := upd_oth (Ne.symm dt) (upd_new hnm ht)
    have old : ∀ b o, b ≠ d → H b = some o → upd (upd H nm (.dK ([s].map nmKv))) d (.frz od (.dT kvs)) b = some o := fun b o n e => upd_oth n (upd_new hnm e)
    generalize upd (upd H nm (.dK ([s].map nmKv))) d (.frz od (.dT kvs)) = HL at hst1 hl hnm1 ht1 old sm0
    refine ⟨_, rfl, d, od, rfl, .inr ⟨kvs, hl, ?_⟩⟩
    have nkey : ∀ {H' : Hp} {q : Addr} {kvs' : List (Key × V)}, H' nm = some (.dK kvs') → H' q = none → q ≠ nm := fun h1 h2 z => by rw [z, h1] at h2; cases h2
    refine for_it (walk_keysT (d := d) (o := od) (kvs := kvs)) (fun i σ H' => (∃ a b c e, σ = [some (.str s), some (.ref d), some (.ref t), some (.ref nm), a, b, c, e, none]) ∧
      But nm HL H' ∧ H' nm = some (.dK (((st.take i).foldl addS [s]).map nmKv))) ⟨⟨_, _, _, _, rfl⟩, fun _ _ _ h => h, hnm1⟩ (fun i σ H' _ p => p.2.1 d (Ne.symm ndm) _ hl) ?_ ?_
    · rintro i x σ H1 H2 hi ⟨⟨v4, v5, v6, v7, rfl⟩, bu, hN⟩ ⟨rfl, k0, v0, q, e0, rfl, hq⟩
      have hi' : i < st.length := by rw [hst.len] at hi; exact hi
      obtain ⟨e, he⟩ : ∃ e, st[i]? = some e := ⟨_, List.getElem?_eq_getElem hi'⟩
      obtain ⟨qv, h1, h2⟩ := hst1.2 i e he
      rw [h1] at e0
      obtain ⟨rfl, rfl⟩ := Prod.mk.inj (Option.some.inj e0)
      have hq' : H2 q = some (.tup [.str e.1.1, .str e.1.2]) := hq
      have qn : qv ≠ nm ∨ True := .inr trivial
      refine ⟨q, _, rfl, SqT.of hq', rfl, _, _, rfl, _, _, rfl, rfl, ?_⟩
      refine ⟨_, rfl, _, rfl, _, rfl, (by show 2 ≤ sizeLine; decide), fun kt hkt => ?_⟩
      have ktn := nkey hN hkt
      have h2' : SqT K (upd H2 kt (.tup [.str e.1.1, .str e.1.2])) qv [.str e.2.1, .str e.2.2] := by
        rcases h2 with (h2 | ⟨o', h2⟩) | h2
        · exact .inl (.inl (upd_new hkt (bu _ (fun z => by rw [z, hnm1] at h2; cases h2) _ h2)))
        · exact .inl (.inr ⟨o', upd_new hkt (bu _ (fun z => by rw [z, hnm1] at h2; cases h2) _ h2)⟩)
        · exact .inr h2
      refine ⟨d, .ref qv, rfl, .inr ⟨kvs, stK e, kt, .inr ⟨od, upd_new hkt (bu d (Ne.symm ndm) _ hl)⟩, rfl, upd_same, (valV_at nd h1).symm⟩, ?_⟩
      refine ⟨qv, _, rfl, h2', rfl, _, _, rfl, _, _, rfl, rfl, ?_⟩
      have hN1 : upd H2 kt (.tup [.str e.1.1, .str e.1.2]) nm = some (.dK (((st.take i).foldl addS [s]).map nmKv)) := upd_new hkt hN
      have bl : ((st.take i).foldl addS [s]).length ≤ 2001 := by
        have := foldS_len (st.take i) [s]
        rw [List.length_take] at this
        simp only [List.length_cons, List.length_nil] at this
        omega
      have bl2 : ∀ x, (addN ((st.take i).foldl addS [s]) x).length ≤ 2002 := fun x => Nat.le_trans (addN_len _ _) (by omega)
      refine ⟨_, rfl, _, rfl, nm, _, rfl, .inl ⟨_, .inr e.1.1, hN1, rfl, ?_, rfl⟩, ?_⟩
      · rw [List.length_map]
        exact Nat.lt_of_le_of_lt bl (by decide)
      rw [put_nm]
      refine ⟨_, rfl, _, rfl, nm, _, rfl, .inl ⟨_, .inr e.2.2, upd_same, rfl, ?_, rfl⟩, ?_⟩
      · rw [List.length_map]
        exact Nat.lt_of_le_of_lt (bl2 _) (by decide)
      rw [put_nm, upd_upd]
      refine ⟨⟨_, _, _, _, rfl⟩, fun b hb o eb => upd_oth hb (upd_new hkt (bu b hb o eb)), ?_⟩
      rw [upd_same, take_fold he]
      rfl
    · rintro σ H' ⟨⟨v4, v5, v6, v7, rfl⟩, bu, hN⟩
      refine ⟨bu d (Ne.symm ndm) _ hl, ?_⟩
      rw [List.take_of_length_le (Nat.le_of_eq hst.len.symm)] at hN
      have sm2 : But nm (upd HL d (.dT kvs)) (upd H' d (.dT kvs)) := by
        intro b hb o e
        by_cases z : b = d
        · rw [z, upd_same] at e
          rw [z, upd_same]
          exact e
        · exact upd_oth z (bu b hb o (by rw [upd_ne z] at e; exact e))
      have sm3 : ∀ b o, H b = some o → upd H' d (.dT kvs) b = some o := fun b o e => sm2 b (fun z => by rw [z, hnm] at e; cases e) o (sm0 _ _ e)
      have hN2 : upd H' d (.dT kvs) nm = some (.dK ((st.foldl addS [s]).map nmKv)) := upd_oth ndm hN
      have hdn : ∀ x, upd H' d (.dT kvs) x = none → H x = none := fun x e => by
        cases h : H x with
        | none => rfl
        | some o => rw [sm3 x o h] at e; cases e
      generalize upd H' d (.dT kvs) = G at sm3 hN2 hdn
      clear sm2 bu hN
      -- the tails
      have ht2 := sm3 _ _ ht
      dsimp only [tSeq]
      refine ⟨t, _, ht2, trivial, fun ot => ?_⟩
      have hl2 : upd G t (.frz ot (.dK (tl.map tlKv))) t = some (.frz ot (.dK (tl.map tlKv))) := upd_same
      have hN3 : upd G t (.frz ot (.dK (tl.map tlKv))) nm = some (.dK ((st.foldl addS [s]).map nmKv)) := upd_oth ntm hN2
      have hx : Same H (upd (upd G t (.frz ot (.dK (tl.map tlKv)))) t (.dK (tl.map tlKv))) := Same.trans sm3 (unlock_same (u' := .frz ot (.dK (tl.map tlKv))) ht2 (fun _ _ h => h))
      generalize upd G t (.frz ot (.dK (tl.map tlKv))) = GL at hl2 hN3 hx
      refine ⟨_, rfl, t, ot, rfl, .inl ⟨_, hl2, ?_⟩⟩
      refine for_it (walk_keys (d := t) (o := ot) (kvs := tl.map tlKv)) (fun i σ H' => (∃ a b c e, σ = [some (.str s), some (.ref d), some (.ref t), some (.ref nm), a, b, c, e, none]) ∧
        But nm GL H' ∧ H' nm = some (.dK ((((tl.take i).map (·.1)).foldl addN (st.foldl addS [s])).map nmKv))) ⟨⟨_, _, _, _, rfl⟩, fun _ _ _ h => h, hN3⟩ (fun i σ H' _ p => p.2.1 t (Ne.symm ntm) _ hl2) ?_ ?_
      · rintro i x σ H1 H2 hi ⟨⟨v4, v5, v6, v7, rfl⟩, bu, hN⟩ ⟨rfl, k0, v0, e0, rfl⟩
        rw [List.length_map] at hi
        obtain ⟨e, he⟩ : ∃ e, tl[i]? = some e := ⟨_, List.getElem?_eq_getElem hi⟩
        rw [List.getElem?_map, he] at e0
        obtain ⟨rfl, rfl⟩ := Prod.mk.inj (Option.some.inj e0)
        have bl : (((tl.take i).map (·.1)).foldl addN (st.foldl addS [s])).length ≤ 3001 := by
          have h1 := foldS_len st [s]
          have h2 := foldN_len ((tl.take i).map (·.1)) (st.foldl addS [s])
          rw [List.length_map, List.length_take] at h2
          simp only [List.length_cons, List.length_nil] at h1
          omega
        dsimp only [gName]
        refine ⟨_, rfl, _, rfl, nm, _, rfl, .inl ⟨_, .inr e.1, hN, rfl, ?_, rfl⟩, ?_⟩
        · rw [List.length_map]
          exact Nat.lt_of_le_of_lt bl (by decide)
        rw [put_nm]
        refine ⟨⟨_, _, _, _, rfl⟩, fun b hb o eb => upd_oth hb (bu b hb o eb), ?_⟩
        have he' : (tl.map (·.1))[i]? = some e.1 := by rw [List.getElem?_map, he]; rfl
        rw [upd_same, List.map_take, List.map_take, take_fold he']
      · rintro σ H' ⟨⟨v4, v5, v6, v7, rfl⟩, bu, hN⟩
        rw [List.length_map, List.take_of_length_le (Nat.le_refl _)] at hN
        refine ⟨bu t (Ne.symm ntm) _ hl2, ?_⟩
        have hN4 : upd H' t (.dK (tl.map tlKv)) nm = some (.dK ((namesOf s st tl).map nmKv)) := upd_oth ntm hN
        have sm4 : Same H (upd H' t (.dK (tl.map tlKv))) := by
          intro b o e
          have bn : b ≠ nm := fun z => by rw [z, hnm] at e; cases e
          by_cases z : b = t
          · subst z
            rw [ht] at e
            cases e
            exact upd_same
          · have := hx _ _ e
            rw [upd_ne z] at this
            exact upd_oth z (bu b bn o this)
        generalize upd H' t (.dK (tl.map tlKv)) = F at hN4 sm4
        -- sorted
        dsimp only [tRet, tCB, tCons]
        refine ⟨nm, _, hN4, trivial, fun on => ?_⟩
        have hl3 : upd F nm (.frz on (.dK ((namesOf s st tl).map nmKv))) nm = some (.frz on (.dK ((namesOf s st tl).map nmKv))) := upd_same
        refine tlc_keys (d := nm) (o := on) (kvs := (namesOf s st tl).map nmKv) (r := fun _ x => some x) hl3 (by rw [List.length_map]; exact Nat.le_of_lt (Nat.lt_of_lt_of_le n64 (by decide))) (fun R h => ⟨_, rfl, h⟩) ?_ ?_
        · intro i x H' hx _ Ky Kn hy _
          rw [List.map_map, List.getElem?_map] at hx
          cases en : (namesOf s st tl)[i]? with
          | none => rw [en] at hx; cases hx
          | some z =>
            rw [en] at hx
            obtain rfl : V.str z = x := Option.some.inj hx
            exact ⟨rfl, yes_run ⟨_, rfl, z, rfl, hy _ rfl⟩⟩
        · intro D hD
          have ef : fm (fun _ x => some x) 0 (((namesOf s st tl).map nmKv).map fun kv => kV kv.1) = (namesOf s st tl).map V.str := by
            rw [L2.fm_map (fun x => x) _ (fun _ _ => rfl), List.map_id', List.map_map]
            rfl
          rw [ef]
          have nD : nm ≠ D := fun z => by rw [← z, hl3] at hD; cases hD
          refine ⟨upd_oth nD hl3, ?_⟩
          have sF := unlock_same hN4 (Same.new (u := .lst ((namesOf s st tl).map V.str)) hD)
          have hDF : upd (upd (upd F nm (.frz on (.dK ((namesOf s st tl).map nmKv)))) D (.lst ((namesOf s st tl).map V.str))) nm (.dK ((namesOf s st tl).map nmKv)) D = some (.lst ((namesOf s st tl).map V.str)) := upd_oth (Ne.symm nD) upd_same
          generalize upd (upd (upd F nm (.frz on (.dK ((namesOf s st tl).map nmKv)))) D (.lst ((namesOf s st tl).map V.str))) nm (.dK ((namesOf s st tl).map nmKv)) = FF at sF hDF
          refine ⟨D, _, rfl, SqL.of hDF, n64, fun ys p hperm hsort hp => ?_⟩
          refine ⟨p, _, rfl, .inl ⟨SqL.of upd_same, fun l hl => ?_⟩⟩
          have sAll : Same H (upd (upd FF p (.lst (ys.map V.str))) l (.tup (ys.map V.str))) := (sm4.trans sF).trans ((Same.new hp).trans (Same.new hl))
          refine k ys l _ hperm hsort ?_ sAll upd_same
          have := ((sm4.trans sF).trans (Same.new (u := .lst (ys.map V.str)) hp)).free hl
          exact this
end
end KC
namespace KC
open PySem L2 PyProof.Rows
section
variable {P : Program} {w : World} {K : PySem.W.Frag} {mg : Str → Option Value} {base : Heap}
def spSletters (K : PySem.W.Frag) : Sp := fun vs H Q _ => ∃ (d : Addr) (kvs : List (List Key × V)) (st : List StE), vs = [.ref d] ∧
  H d = some (.dT kvs) ∧ StK K H kvs st ∧ st.length ≤ 1000 ∧ (lettersOf st).length < 64 ∧ TupOf H Q (lettersOf st)
theorem kp_sletters (T : Txt K mg) : Kf P w K mg base 1 "step_letters" ["steps"] (spSletters K) := by
  refine T.d_sletters.okF sc_sletters (fun vs H Q E h => ?_) (fun f cdv A outer s H vs Q E hA hr h => ?_)
  · obtain ⟨d, kvs, st, rfl, _⟩ := h
    rfl
  · obtain ⟨d, kvs, st, rfl, hd, hst, len, n64, k⟩ := h
    refine ⟨_, (pss_cons (ps_lock (ps_setDc (i := 1) (own := [("state", 2), ("letter", 3)]) (g := gTup K 2 (gCons (gName 2) (gCons (gName 3) gNil))) (tt := tYes) rfl sc_sletters.nd rfl rfl (swap_dict rfl rfl rfl (by decide +kernel)) (pi_keys (pv 0)) (blkOk_by (N := n_sletters) (sc := defScope s_sletters) (by decide +kernel)) (fun _ _ _ _ _ => pg_tup rfl (pgs_cons (pg_name (i := 2) sc_sletters.nd rfl (Or.inl rfl)) (pgs_cons (pg_name (i := 3) sc_sletters.nd rfl (Or.inl rfl)) pgs_nil))) (fun _ _ _ _ _ => pts_nil) (fun _ _ _ _ _ => (pv 3)) (fun _ _ _ _ _ => (pe_bl))))
 (pss_one (ps_ret (pe_callTy call_tuple_of (by rfl) (T.nb _ (by decide)) (by decide +kernel) (pa_cons (pe_callB cr_sortedS (by rfl) (T.nb _ (by decide)) (by decide +kernel) (pa_cons (pe_lock (pe_lc (own := [("letter", 3)]) (g := gName 3) (tt := tYes) rfl sc_sletters.nd (pi_keys (pv 1)) (blkOk_by (N := n_sletters) (sc := defScope s_sletters) (by decide +kernel)) (fun _ _ _ _ _ => pg_name (i := 3) sc_sletters.nd rfl (Or.inl rfl)) (fun _ _ _ _ _ => pts_nil) (fun _ _ _ _ _ => (pe_callTy SkE.call_str_str (by rfl) (T.nb _ (by decide)) (by decide +kernel) (pa_cons (pv 3) pa_nil))))) pa_nil)) pa_nil))))), ?_⟩
    refine ⟨d, _, hd, trivial, fun od => ?_⟩
    have hst1 := hst.lock (o := od) hd
    have hl : upd H d (.frz od (.dT kvs)) d = some (.frz od (.dT kvs)) := upd_same
    have old : Same H (upd (upd H d (.frz od (.dT kvs))) d (.dT kvs)) := unlock_same (u' := .frz od (.dT kvs)) hd (fun _ _ h => h)
    generalize eHL : upd H d (.frz od (.dT kvs)) = HL at hst1 hl old
    refine ⟨_, rfl, d, od, rfl, .inr ⟨kvs, hl, fun D hD => ?_⟩⟩
    refine dcK_it (walk_keysT (d := d) (o := od) (kvs := kvs)) (fun i H' => Same HL H' ∧ H' D = some (.dK ((((st.take i).map fun e => e.1.2).foldl addN []).map nmKv))) ⟨Same.new hD, upd_same⟩ (fun i H' _ p => p.1 _ _ hl) ?_ ?_
    · rintro i x H1 H2 hi ⟨sm, hDl⟩ ⟨rfl, k0, v0, q, e0, rfl, hq⟩
      have hi' : i < st.length := by rw [hst.len] at hi; exact hi
      obtain ⟨e, he⟩ : ∃ e, st[i]? = some e := ⟨_, List.getElem?_eq_getElem hi'⟩
      obtain ⟨qv, h1, h2⟩ := hst1.2 i e he
      rw [h1] at e0
      obtain ⟨rfl, rfl⟩ := Prod.mk.inj (Option.some.inj e0)
      have hq' : H2 q = some (.tup [.str e.1.1, .str e.1.2]) := hq
      refine ⟨q, _, rfl, SqT.of hq', rfl, _, _, rfl, _, _, rfl, rfl, rfl, yes_run ?_⟩
      refine ⟨_, rfl, _, .inr e.1.2, rfl, hDl, ?_, ?_, ?_⟩
      · rw [List.length_map]
        have := foldN_len ((st.take i).map fun e => e.1.2) []
        rw [List.length_map, List.length_take] at this
        simp only [List.length_nil] at this
        exact Nat.lt_of_le_of_lt (show _ ≤ 1000 by omega) (by decide)
      · intro b o eb
        exact upd_oth (fun z => by rw [z, hD] at eb; cases eb) (sm _ _ eb)
      · rw [put_nm, upd_same]
        have he' : (st.map fun e => e.1.2)[i]? = some e.1.2 := by rw [List.getElem?_map, he]; rfl
        rw [List.map_take, List.map_take, take_fold he']
    · rintro H' ⟨sm, hDl⟩
      rw [List.take_of_length_le (Nat.le_of_eq hst.len.symm)] at hDl
      dsimp only [gName]
      have dD : D ≠ d := fun z => by rw [z, hl] at hD; cases hD
      refine ⟨sm _ _ hl, ?_⟩
      have sm4 : Same H (upd H' d (.dT kvs)) := unlock_same (u' := .frz od (.dT kvs)) hd (by rw [eHL]; exact sm)
      have hN4 : upd H' d (.dT kvs) D = some (.dK ((lettersOf st).map nmKv)) := upd_oth dD hDl
      generalize upd H' d (.dT kvs) = F at hN4 sm4
      dsimp only [tRet, tCB, tCons]
      refine ⟨D, _, hN4, trivial, fun on => ?_⟩
      have hl3 : upd F D (.frz on (.dK ((lettersOf st).map nmKv))) D = some (.frz on (.dK ((lettersOf st).map nmKv))) := upd_same
      refine tlc_keys (d := D) (o := on) (kvs := (lettersOf st).map nmKv) (r := fun _ x => some x) hl3 (by rw [List.length_map]; exact Nat.le_of_lt (Nat.lt_of_lt_of_le n64 (by decide))) (fun R h => ⟨_, rfl, h⟩) ?_ ?_
      · intro i x H' hx _ Ky Kn hy _
        rw [List.map_map, List.getElem?_map] at hx
        cases en : (lettersOf st)[i]? with
        | none => rw [en] at hx; cases hx
        | some z =>
          rw [en] at hx
          obtain rfl : V.str z = x := Option.some.inj hx
          exact ⟨rfl, yes_run ⟨_, rfl, z, rfl, hy _ rfl⟩⟩
      · intro L hL
        have ef : fm (fun _ x => some x) 0 (((lettersOf st).map nmKv).map fun kv => kV kv.1) = (lettersOf st).map V.str := by
          rw [L2.fm_map (fun x => x) _ (fun _ _ => rfl), List.map_id', List.map_map]
          rfl
        rw [ef]
        have nL : D ≠ L := fun z => by rw [← z, hl3] at hL; cases hL
        refine ⟨upd_oth nL hl3, ?_⟩
        have sF := unlock_same hN4 (Same.new (u := .lst ((lettersOf st).map V.str)) hL)
        have hDF : upd (upd (upd F D (.frz on (.dK ((lettersOf st).map nmKv)))) L (.lst ((lettersOf st).map V.str))) D (.dK ((lettersOf st).map nmKv)) L = some (.lst ((lettersOf st).map V.str)) := upd_oth (Ne.symm nL) upd_same
        generalize upd (upd (upd F D (.frz on (.dK ((lettersOf st).map nmKv)))) L (.lst ((lettersOf st).map V.str))) D (.dK ((lettersOf st).map nmKv)) = FF at sF hDF
        refine ⟨L, _, rfl, SqL.of hDF, n64, fun ys p hperm hsort hp => ?_⟩
        refine ⟨p, _, rfl, .inl ⟨SqL.of upd_same, fun l hl => ?_⟩⟩
        have sAll : Same H (upd (upd FF p (.lst (ys.map V.str))) l (.tup (ys.map V.str))) := (sm4.trans sF).trans ((Same.new hp).trans (Same.new hl))
        exact k ys l _ hperm hsort (((sm4.trans sF).trans (Same.new (u := .lst (ys.map V.str)) hp)).free hl) sAll upd_same
end
end KC
namespace KC
open PySem L2 PyProof.Rows
def gC (mg : Str → Option Value) : Addr := adr mg "Converter"
structure TxC (K : PySem.W.Frag) (mg : Str → Option Value) : Prop where
  T : Txt K mg
  mgC : mg "Converter" = some (.ref (gC mg))
  cls : Cls K (gC mg)
  nA : ∀ x ∈ ["start", "states", "letters", "steps", "tails"], NoAttr K (gC mg) x
  most : ∃ u, Con K (gC mg) "MOST" (.int 6) u
  mostL : ∃ u, Con K (gC mg) "MOST_LETTERS" (.int 4) u
  init : ∃ f fd, Mk K (gC mg) f ∧ MD K "__init__" "Converter.__init__" s_init [] f fd ∧ Binds K fd ["self", "start", "steps", "tails"] []
/-- a dict of steps, as the package keeps it -/
structure StAt (K : PySem.W.Frag) (H : Hp) (d : Addr) (st : List StE) : Prop where
  ex : ∃ kvs, H d = some (.dT kvs) ∧ StK K H kvs st ∧ (kvs.map (·.1)).Nodup
def flds (s : Str) (ss ls d t : Addr) : List (Str × V) := [("start", .str s), ("states", .ref ss), ("letters", .ref ls), ("steps", .ref d), ("tails", .ref t)]
/-- a converter of these parts -/
def CvAt (K : PySem.W.Frag) (C : Addr) (H : Hp) (x : Addr) (s : Str) (st : List StE) (tl : List (Str × Str)) : Prop :=
  ∃ (dx ss ls d t : Addr) (ys zs : List Str), H x = some (.ins C dx (flds s ss ls d t)) ∧ H ss = some (.tup (ys.map V.str)) ∧ ys.Perm (namesOf s st tl) ∧ sortedS ys = true ∧
    H ls = some (.tup (zs.map V.str)) ∧ zs.Perm (lettersOf st) ∧ sortedS zs = true ∧ StAt K H d st ∧ H t = some (.dK (tl.map tlKv)) ∧ (tl.map (·.1)).Nodup
theorem StAt.same {K : PySem.W.Frag} {H H' : Hp} {d : Addr} {st : List StE} (h : StAt K H d st) (s : Same H H') : StAt K H' d st := by
  obtain ⟨kvs, a, b, c⟩ := h.ex
  exact ⟨kvs, s _ _ a, b.same s, c⟩
theorem CvAt.same {K : PySem.W.Frag} {C : Addr} {H H' : Hp} {x : Addr} {s : Str} {st : List StE} {tl : List (Str × Str)} (h : CvAt K C H x s st tl) (m : Same H H') : CvAt K C H' x s st tl := by
  obtain ⟨dx, ss, ls, d, t, ys, zs, h1, h2, h3, h4, h5, h6, h7, h8, h9, h10⟩ := h
  exact ⟨dx, ss, ls, d, t, ys, zs, m _ _ h1, m _ _ h2, h3, h4, m _ _ h5, h6, h7, h8.same m, m _ _ h9, h10⟩
theorem put_take {kvs : List (List Key × V)} {i : Nat} {k : List Key} {v : V} (nd : (kvs.map (·.1)).Nodup) (h : kvs[i]? = some (k, v)) : putK (kvs.take i) k v = kvs.take (i + 1) := by
  have no : ((kvs.take i).any fun kv => decide (kv.1 = k)) = false := by
    rw [List.any_eq_false]
    intro p hp z
    obtain ⟨j, hj, e⟩ := List.mem_iff_getElem.mp hp
    rw [List.length_take] at hj
    rw [List.getElem_take] at e
    have e1 : (kvs.map (·.1))[j]? = some k := by
      rw [List.getElem?_map, List.getElem?_eq_getElem (by omega), e]
      exact congrArg some (of_decide_eq_true z)
    have e2 : (kvs.map (·.1))[i]? = some k := by rw [List.getElem?_map, h]; rfl
    have li := (List.getElem?_eq_some_iff.mp h).1
    have := (List.getElem?_inj (by rw [List.length_map]; omega) nd).mp (e1.trans e2.symm)
    omega
  unfold putK
  rw [no]
  simp only [Bool.false_eq_true, if_false]
  rw [List.take_add_one, h]
  rfl
theorem put_takeK {kvs : List (Key × V)} {i : Nat} {k : Key} {v : V} (nd : (kvs.map (·.1)).Nodup) (h : kvs[i]? = some (k, v)) : putK (kvs.take i) k v = kvs.take (i + 1) := by
  have no : ((kvs.take i).any fun kv => decide (kv.1 = k)) = false := by
    rw [List.any_eq_false]
    intro p hp z
    obtain ⟨j, hj, e⟩ := List.mem_iff_getElem.mp hp
    rw [List.length_take] at hj
    rw [List.getElem_take] at e
    have e1 : (kvs.map (·.1))[j]? = some k := by
      rw [List.getElem?_map, List.getElem?_eq_getElem (by omega), e]
      exact congrArg some (of_decide_eq_true z)
    have e2 : (kvs.map (·.1))[i]? = some k := by rw [List.getElem?_map, h]; rfl
    have li := (List.getElem?_eq_some_iff.mp h).1
    have := (List.getElem?_inj (by rw [List.length_map]; omega) nd).mp (e1.trans e2.symm)
    omega
  unfold putK
  rw [no]
  simp only [Bool.false_eq_true, if_false]
  rw [List.take_add_one, h]
  rfl
section
variable {P : Program} {w : World} {K : PySem.W.Frag} {mg : Str → Option Value} {base : Heap}
/-- what parts a converter can be made of -/
structure OkParts (s : Str) (st : List StE) (tl : List (Str × Str)) : Prop where
  os : isName s = true
  ost : ∀ e ∈ st, okStep e
  lst : st.length ≤ 1000
  otl : ∀ e ∈ tl, okTail e
  ltl : tl.length ≤ 1000
  n6 : (namesOf s st tl).length ≤ 6
  l4 : (lettersOf st).length ≤ 4
def spInit (K : PySem.W.Frag) (C : Addr) : Sp := fun vs H Q _ => ∃ (x dx d t : Addr) (s : Str) (st : List StE) (tl : List (Str × Str)), vs = [.ref x, .str s, .ref d, .ref t] ∧ H x = some (.ins C dx []) ∧
  StAt K H d st ∧ H t = some (.dK (tl.map tlKv)) ∧ (tl.map (·.1)).Nodup ∧ OkParts s st tl ∧ ∀ H', But x H H' → CvAt K C H' x s st tl → Q .non H'
theorem kp_init (TC : TxC K mg) : KmkN P w K mg base (gC mg) 5 ["self", "start", "steps", "tails"] (spInit K (gC mg)) := by
  have T := TC.T
  obtain ⟨f, fd, M, F, b0⟩ := TC.init
  refine ⟨f, fd, M, b0, F.okM sc_init (fun vs H Q E h => ?_) (fun f cdv A outer s H vs Q E hA hr h => ?_)⟩
  · obtain ⟨x, dx, d, t, s, st, tl, rfl, _⟩ := h
    rfl
  · obtain ⟨x, dx, d, t, s, st, tl, rfl, hx, ⟨kvs, hd, hst, nd⟩, ht, ndt, ok, k⟩ := h
    refine ⟨_, (pss_cons (ps_if (pt_not (pt_val (pe_kf (kp_name T) hA hr (by rfl) (pa_cons (pv 1) pa_nil))))
 (pss_one (ps_never)) pss_nil)
 (pss_cons (ps_if (pt_not (pt_val (pe_kf (kp_steps T) hA hr (by rfl) (pa_cons (pv 2) pa_nil))))
 (pss_one (ps_never)) pss_nil)
 (pss_cons (ps_if (pt_not (pt_val (pe_kf (kp_tails T) hA hr (by rfl) (pa_cons (pv 3) pa_nil))))
 (pss_one (ps_never)) pss_nil)
 (pss_cons (ps_set (i := 4) sc_init.nd rfl (Or.inl rfl) (pe_kf (kp_snames T) hA hr (by rfl) (pa_cons (pv 1) (pa_cons (pv 2) (pa_cons (pv 3) pa_nil)))))
 (pss_cons (ps_set (i := 5) sc_init.nd rfl (Or.inl rfl) (pe_kf (kp_sletters T) hA hr (by rfl) (pa_cons (pv 2) pa_nil)))
 (pss_cons (ps_if (pt_cmpR op_gt (pe_callB call_len (by rfl) (T.nb _ (by decide)) PySem.boot_len (pa_cons (pv 4) pa_nil)) (pe_con (pv 0) rfl) (nomark _))
 (pss_one (ps_never)) pss_nil)
 (pss_cons (ps_if (pt_cmpR op_gt (pe_callB call_len (by rfl) (T.nb _ (by decide)) PySem.boot_len (pa_cons (pv 5) pa_nil)) (pe_con (pv 0) rfl) (nomark _))
 (pss_one (ps_never)) pss_nil)
 (pss_cons (ps_fld (pv 0) (pv 1) rfl)
 (pss_cons (ps_fld (pv 0) (pv 4) rfl)
 (pss_cons (ps_fld (pv 0) (pv 5) rfl)
 (pss_cons (ps_fld (pv 0) (pe_lock (pe_dcT (hu2_of hr) (own := [("key", 6)]) (g := gName 6) (tt := tYes) rfl sc_init.nd (pi_keys (pv 2)) (blkOk_by (N := n_init) (sc := defScope s_init) (by decide +kernel)) (fun _ _ _ _ _ => pg_name (i := 6) sc_init.nd rfl (Or.inl rfl)) (fun _ _ _ _ _ => pts_nil) (fun _ _ _ _ _ => (pv 6)) (fun _ _ _ _ _ => (pe_dget (hu_of hr) (pv 2) (pv 6) (fun _ _ => rfl))))) rfl)
 (pss_one (ps_fld (pv 0) (pe_lock (pe_dc (own := [("state", 7)]) (g := gName 7) (tt := tYes) rfl sc_init.nd (pi_keys (pv 3)) (blkOk_by (N := n_init) (sc := defScope s_init) (by decide +kernel)) (fun _ _ _ _ _ => pg_name (i := 7) sc_init.nd rfl (Or.inl rfl)) (fun _ _ _ _ _ => pts_nil) (fun _ _ _ _ _ => (pv 7)) (fun _ _ _ _ _ => (pe_dget (hu_of hr) (pv 3) (pv 7) (fun _ _ => rfl))))) rfl))))))))))))), ?_⟩
    have nx : ∀ {H' : Hp} {b : Addr} {o : HO}, H' x = some (.ins (gC mg) dx []) → H' b = some o → (∀ C dx fs, o ≠ .ins C dx fs) → b ≠ x := fun h1 h2 h3 z => by
      rw [z, h1] at h2
      exact h3 _ _ _ (Option.some.inj h2).symm
    refine ⟨_, rfl, .str s, rfl, .inl ⟨s, rfl, okL_len ok.os (by decide), fun H1 s1 => ?_⟩⟩
    rw [show okL 1 8 s = true from ok.os]
    refine ⟨_, rfl, iteF ?_⟩
    refine ⟨_, rfl, d, kvs, st, rfl, s1 _ _ hd, hst.same s1, nd, ok.ost, ok.lst, fun H2 s2 => ⟨_, rfl, iteF ?_⟩⟩
    have s02 := s1.trans s2
    refine ⟨_, rfl, t, tl, rfl, s02 _ _ ht, ndt, ok.otl, ok.ltl, fun H3 s3 => ⟨_, rfl, iteF ?_⟩⟩
    have s03 := s02.trans s3
    refine ⟨_, rfl, _, rfl, _, rfl, s, d, t, kvs, st, tl, rfl, s03 _ _ hd, hst.same s03, nd, ok.lst, s03 _ _ ht, ok.ltl, Nat.lt_of_le_of_lt ok.n6 (by decide), fun ys ss H4 hperm hsort hss s4 hss4 => ?_⟩
    have s04 := s03.trans s4
    refine ⟨_, rfl, d, kvs, st, rfl, s04 _ _ hd, hst.same s04, ok.lst, Nat.lt_of_le_of_lt ok.l4 (by decide), fun zs ls H5 hperm2 hsort2 hls s5 hls5 => ?_⟩
    have s05 := s04.trans s5
    have hss5 := s5 _ _ hss4
    have hx5 := s05 _ _ hx
    obtain ⟨u1, c1⟩ := TC.most
    obtain ⟨u2, c2⟩ := TC.mostL
    have ly : ys.length ≤ 6 := by rw [hperm.length_eq]; exact ok.n6
    have lz : zs.length ≤ 4 := by rw [hperm2.length_eq]; exact ok.l4
    refine ⟨_, rfl, .ref ss, _, rfl, .inr ⟨_, SqT.of hss5, rfl⟩, _, rfl, x, _, dx, _, _, u1, rfl, hx5, TC.cls, c1, rfl, _, _, rfl, rfl, _, rfl, ?_⟩
    rw [List.length_map, decide_eq_false (by omega)]
    refine iteF ?_
    refine ⟨_, rfl, .ref ls, _, rfl, .inr ⟨_, SqT.of hls5, rfl⟩, _, rfl, x, _, dx, _, _, u2, rfl, hx5, TC.cls, c2, rfl, _, _, rfl, rfl, _, rfl, ?_⟩
    rw [List.length_map, decide_eq_false (by omega)]
    refine iteF ?_
    refine ⟨_, rfl, _, rfl, x, _, dx, [], rfl, hx5, TC.cls, TC.nA _ (by decide), by show 0 < 1000; decide, ?_⟩
    refine ⟨_, rfl, _, rfl, x, _, dx, _, rfl, upd_same, TC.cls, TC.nA _ (by decide), by show 1 < 1000; decide, ?_⟩
    rw [upd_upd]
    refine ⟨_, rfl, _, rfl, x, _, dx, _, rfl, upd_same, TC.cls, TC.nA _ (by decide), by show 2 < 1000; decide, ?_⟩
    rw [upd_upd]
    have no : ∀ {b : Addr} {o : HO}, H5 b = some o → (∀ C dx fs, o ≠ .ins C dx fs) → b ≠ x := fun h2 h3 => nx hx5 h2 h3
    have ndx : d ≠ x := no (s05 _ _ hd) (fun _ _ _ z => by cases z)
    have ntx : t ≠ x := no (s05 _ _ ht) (fun _ _ _ z => by cases z)
    have nsx : ss ≠ x := no hss5 (fun _ _ _ z => by cases z)
    have nlx : ls ≠ x := no hls5 (fun _ _ _ z => by cases z)
    have dt : d ≠ t := fun z => by rw [z, ht] at hd; cases hd
    have bx : But x H (upd H5 x (.ins (gC mg) dx [("start", .str s), ("states", .ref ss), ("letters", .ref ls)])) := fun b hb o e => upd_oth hb (s05 _ _ e)
    have stE : StK K (upd H5 x (.ins (gC mg) dx [("start", .str s), ("states", .ref ss), ("letters", .ref ls)])) kvs st := by
      refine ⟨hst.1, fun i e he => ?_⟩
      obtain ⟨q, a1, a2⟩ := hst.2 i e he
      refine ⟨q, a1, ?_⟩
      rcases a2 with (a2 | ⟨o', a2⟩) | a2
      · exact .inl (.inl (bx _ (no (s05 _ _ a2) (fun _ _ _ z => by cases z)) _ a2))
      · exact .inl (.inr ⟨o', bx _ (no (s05 _ _ a2) (fun _ _ _ z => by cases z)) _ a2⟩)
      · exact .inr a2
    have hx6 : upd H5 x (.ins (gC mg) dx [("start", .str s), ("states", .ref ss), ("letters", .ref ls)]) x = some (.ins (gC mg) dx [("start", .str s), ("states", .ref ss), ("letters", .ref ls)]) := upd_same
    have hd6 := bx d ndx _ hd
    have ht6 := bx t ntx _ ht
    have hs6 : upd H5 x (.ins (gC mg) dx [("start", .str s), ("states", .ref ss), ("letters", .ref ls)]) ss = some (.tup (ys.map V.str)) := upd_oth nsx hss5
    have hl6 : upd H5 x (.ins (gC mg) dx [("start", .str s), ("states", .ref ss), ("letters", .ref ls)]) ls = some (.tup (zs.map V.str)) := upd_oth nlx hls5
    have e3 : putF "letters" (V.ref ls) (putF "states" (V.ref ss) (putF "start" (V.str s) [])) = ([("start", .str s), ("states", .ref ss), ("letters", .ref ls)] : List (Str × V)) := rfl
    rw [e3]
    generalize upd H5 x (.ins (gC mg) dx [("start", .str s), ("states", .ref ss), ("letters", .ref ls)]) = H6 at bx stE hx6 hd6 ht6 hs6 hl6
    -- the steps
    refine ⟨d, _, hd6, trivial, fun od => ?_⟩
    have hl : upd H6 d (.frz od (.dT kvs)) d = some (.frz od (.dT kvs)) := upd_same
    generalize eHL : upd H6 d (.frz od (.dT kvs)) = HL at hl
    refine ⟨_, rfl, d, od, rfl, .inr ⟨kvs, hl, fun D hD => ?_⟩⟩
    refine dcT_it (walk_keysT (d := d) (o := od) (kvs := kvs)) (fun i H' => Same HL H' ∧ H' D = some (.dT (kvs.take i))) ⟨Same.new hD, upd_same⟩ (fun i H' _ p => p.1 _ _ hl) ?_ ?_
    · rintro i x0 A1 A2 hi ⟨sm, hDl⟩ ⟨rfl, k0, v0, q, e0, rfl, hq⟩
      refine ⟨rfl, yes_run ?_⟩
      refine ⟨_, rfl, _, rfl, _, rfl, d, v0, rfl, .inr ⟨kvs, k0, q, .inr ⟨od, sm _ _ hl⟩, rfl, hq, (valV_at nd e0).symm⟩, ?_⟩
      refine ⟨_, k0, q, rfl, hq, hDl, ?_, ?_, ?_⟩
      · rw [List.length_take]
        have : kvs.length ≤ 1000 := by rw [hst.len]; exact ok.lst
        exact Nat.lt_of_le_of_lt (show _ ≤ 1000 by omega) (by decide)
      · intro b o eb
        exact upd_oth (fun z => by rw [z, hD] at eb; cases eb) (sm _ _ eb)
      · rw [put_take nd e0, upd_same]
    rintro A1 ⟨sm, hDl⟩
    rw [List.take_of_length_le (Nat.le_refl _)] at hDl
    have dD : D ≠ d := fun z => by rw [z, hl] at hD; cases hD
    refine ⟨sm _ _ hl, ?_⟩
    have s6 : Same H6 (upd A1 d (.dT kvs)) := unlock_same (u' := .frz od (.dT kvs)) hd6 (by rw [eHL]; exact sm)
    have hD6 : upd A1 d (.dT kvs) D = some (.dT kvs) := upd_oth dD hDl
    generalize upd A1 d (.dT kvs) = F at s6 hD6
    have hx7 := s6 _ _ hx6
    refine ⟨_, rfl, x, _, dx, _, rfl, hx7, TC.cls, TC.nA _ (by decide), by show 3 < 1000; decide, ?_⟩
    have e4 : putF "steps" (V.ref D) ([("start", .str s), ("states", .ref ss), ("letters", .ref ls)] : List (Str × V)) = ([("start", .str s), ("states", .ref ss), ("letters", .ref ls), ("steps", .ref D)] : List (Str × V)) := rfl
    rw [e4]
    have dDx : D ≠ x := fun z => by rw [z, hx7] at hD6; cases hD6
    have b7 : But x H6 (upd F x (.ins (gC mg) dx [("start", .str s), ("states", .ref ss), ("letters", .ref ls), ("steps", .ref D)])) := fun b hb o e => upd_oth hb (s6 _ _ e)
    have hx8 : upd F x (.ins (gC mg) dx [("start", .str s), ("states", .ref ss), ("letters", .ref ls), ("steps", .ref D)]) x = some (.ins (gC mg) dx [("start", .str s), ("states", .ref ss), ("letters", .ref ls), ("steps", .ref D)]) := upd_same
    have hD8 : upd F x (.ins (gC mg) dx [("start", .str s), ("states", .ref ss), ("letters", .ref ls), ("steps", .ref D)]) D = some (.dT kvs) := upd_oth dDx hD6
    have ht8 := b7 t ntx _ ht6
    have hs8 := b7 ss nsx _ hs6
    have hl8 := b7 ls nlx _ hl6
    have b8 : But x H (upd F x (.ins (gC mg) dx [("start", .str s), ("states", .ref ss), ("letters", .ref ls), ("steps", .ref D)])) := fun b hb o e => b7 b hb o (bx b hb o e)
    generalize upd F x (.ins (gC mg) dx [("start", .str s), ("states", .ref ss), ("letters", .ref ls), ("steps", .ref D)]) = H8 at hx8 hD8 ht8 hs8 hl8 b8
    -- the tails
    refine ⟨t, _, ht8, trivial, fun ot => ?_⟩
    have hlt : upd H8 t (.frz ot (.dK (tl.map tlKv))) t = some (.frz ot (.dK (tl.map tlKv))) := upd_same
    generalize eGL : upd H8 t (.frz ot (.dK (tl.map tlKv))) = GL at hlt
    refine ⟨_, rfl, t, ot, rfl, .inl ⟨_, hlt, fun D2 hD2 => ?_⟩⟩
    refine dcK_it (walk_keys (d := t) (o := ot) (kvs := tl.map tlKv)) (fun i H' => Same GL H' ∧ H' D2 = some (.dK ((tl.map tlKv).take i))) ⟨Same.new hD2, upd_same⟩ (fun i H' _ p => p.1 _ _ hlt) ?_ ?_
    · rintro i x0 A1 A2 hi ⟨sm, hDl⟩ ⟨rfl, k0, v0, e0, rfl⟩
      refine ⟨rfl, yes_run ?_⟩
      refine ⟨_, rfl, _, rfl, _, rfl, t, v0, rfl, .inl ⟨_, k0, .inr ⟨ot, sm _ _ hlt⟩, rfl, (valV_at (tl_nd ndt) e0).symm⟩, ?_⟩
      refine ⟨_, k0, rfl, hDl, ?_, ?_, ?_⟩
      · rw [List.length_take, List.length_map]
        have := ok.ltl
        exact Nat.lt_of_le_of_lt (show _ ≤ 1000 by omega) (by decide)
      · intro b o eb
        exact upd_oth (fun z => by rw [z, hD2] at eb; cases eb) (sm _ _ eb)
      · rw [put_takeK (tl_nd ndt) e0, upd_same]
    rintro A1 ⟨sm2, hDl2⟩
    rw [List.take_of_length_le (Nat.le_refl _)] at hDl2
    have dD2 : D2 ≠ t := fun z => by rw [z, hlt] at hD2; cases hD2
    refine ⟨sm2 _ _ hlt, ?_⟩
    have s8 : Same H8 (upd A1 t (.dK (tl.map tlKv))) := unlock_same (u' := .frz ot (.dK (tl.map tlKv))) ht8 (by rw [eGL]; exact sm2)
    have hD9 : upd A1 t (.dK (tl.map tlKv)) D2 = some (.dK (tl.map tlKv)) := upd_oth dD2 hDl2
    generalize upd A1 t (.dK (tl.map tlKv)) = G at s8 hD9
    have hx9 := s8 _ _ hx8
    refine ⟨_, rfl, x, _, dx, _, rfl, hx9, TC.cls, TC.nA _ (by decide), by show 4 < 1000; decide, ?_⟩
    have dD2x : D2 ≠ x := fun z => by rw [z, hx9] at hD9; cases hD9
    have b9 : But x H (upd G x (.ins (gC mg) dx (flds s ss ls D D2))) := fun b hb o e => upd_oth hb (s8 _ _ (b8 b hb o e))
    refine k _ b9 ⟨dx, ss, ls, D, D2, ys, zs, upd_same, upd_oth nsx (s8 _ _ hs8), hperm, hsort, upd_oth nlx (s8 _ _ hl8), hperm2, hsort2, ⟨kvs, upd_oth dDx (s8 _ _ hD8), ?_, nd⟩, upd_oth dD2x hD9, ndt⟩
    refine ⟨hst.1, fun i e he => ?_⟩
    obtain ⟨q, a1, a2⟩ := hst.2 i e he
    refine ⟨q, a1, ?_⟩
    rcases a2 with (a2 | ⟨o', a2⟩) | a2
    · exact .inl (.inl (b9 _ (no (s05 _ _ a2) (fun _ _ _ z => by cases z)) _ a2))
    · exact .inl (.inr ⟨o', b9 _ (no (s05 _ _ a2) (fun _ _ _ z => by cases z)) _ a2⟩)
    · exact .inr a2
end
end KC
namespace KC
open PySem L2 PyProof.Rows
/-- the step of a state and a letter -/
def stepOf (st : List StE) (s l : Str) : Option (Str × Str) := (st.find? fun e => decide (e.1 = (s, l))).map (·.2)
theorem stK_inj {e : StE} {s l : Str} (h : stK e = [.inr s, .inr l]) : e.1 = (s, l) := by
  have h1 := List.cons.inj h
  have h2 := List.cons.inj h1.2
  exact Prod.ext (Sum.inr.inj h1.1) (Sum.inr.inj h2.1)
theorem valV_none {κ : Type} [DecidableEq κ] {kvs : List (κ × V)} {k : κ} (h : k ∉ kvs.map (·.1)) : valV kvs k = none := by
  unfold valV
  rw [List.find?_eq_none.mpr]
  · rfl
  · intro p hp z
    exact h (List.mem_map.mpr ⟨p, hp, of_decide_eq_true z⟩)
theorem StK.get {K : PySem.W.Frag} {H : Hp} {kvs : List (List Key × V)} {st : List StE} (h : StK K H kvs st) (nd : (kvs.map (·.1)).Nodup) (s l : Str) :
    (stepOf st s l = none ∧ valV kvs [.inr s, .inr l] = none) ∨ ∃ a to q, stepOf st s l = some (a, to) ∧ valV kvs [.inr s, .inr l] = some (.ref q) ∧ SqT K H q [.str a, .str to] := by
  unfold stepOf
  cases e : st.find? fun e => decide (e.1 = (s, l)) with
  | none =>
    refine .inl ⟨rfl, valV_none fun hm => ?_⟩
    rw [h.1] at hm
    obtain ⟨x, hx, ek⟩ := List.mem_map.mp hm
    have := List.find?_eq_none.mp e x hx
    exact this (decide_eq_true (stK_inj ek))
  | some x =>
    have hx := List.mem_of_find?_eq_some e
    have ex : x.1 = (s, l) := by
      have := List.find?_some e
      simpa using this
    obtain ⟨i, hi, e1⟩ := List.mem_iff_getElem.mp hx
    obtain ⟨q, a1, a2⟩ := h.2 i x (by rw [List.getElem?_eq_getElem hi, e1])
    have := valV_at nd a1
    have ek : stK x = [.inr s, .inr l] := by
      unfold stK
      rw [ex]
    rw [ek] at this
    exact .inr ⟨x.2.1, x.2.2, q, rfl, this, a2⟩
/-- what is written, the state come to, how many letters have steps -/
def fol (st : List StE) : Str → Str → List Nat → Nat → Str × Str × Nat
  | w, s, [], n => (w, s, n)
  | w, s, c :: cs, n => match stepOf st s ⟨#[c]⟩ with
    | none => (w, s, n)
    | some (a, to) => fol st (w ++ a) to cs (n + 1)
theorem stepOf_ok {st : List StE} {s l a to : Str} (h : stepOf st s l = some (a, to)) (ok : ∀ e ∈ st, okStep e) : isAns a = true ∧ isName to = true := by
  unfold stepOf at h
  cases e : st.find? fun e => decide (e.1 = (s, l)) with
  | none => rw [e] at h; cases h
  | some x =>
    rw [e] at h
    have hx := List.mem_of_find?_eq_some e
    have : x.2 = (a, to) := Option.some.inj h
    obtain ⟨_, _, o3, o4⟩ := ok x hx
    rw [this] at o3 o4
    exact ⟨o3, o4⟩
section
variable {P : Program} {w : World} {K : PySem.W.Frag} {mg : Str → Option Value} {base : Heap}
def spFollowed (K : PySem.W.Frag) (C : Addr) : Sp := fun vs H Q _ => ∃ (x : Addr) (s0 z s : Str) (st : List StE) (tl : List (Str × Str)), vs = [.ref x, .str s, .str z] ∧ CvAt K C H x s0 st tl ∧ OkParts s0 st tl ∧
  z.cps.size ≤ 1000 ∧ ∀ q H', H q = none → Same H H' → H' q = some (.tup [.str (fol st "" s z.cps.toList 0).1, .str (fol st "" s z.cps.toList 0).2.1, .int (fol st "" s z.cps.toList 0).2.2]) → Q (.ref q) H'
theorem kp_followed (TC : TxC K mg) : Kf P w K mg base 1 "followed" ["converter", "start", "text"] (spFollowed K (gC mg)) := by
  have T := TC.T
  refine T.d_followed.okF sc_followed (fun vs H Q E h => ?_) (fun f cdv A outer s H vs Q E hA hr h => ?_)
  · obtain ⟨x, s0, z, s, st, tl, rfl, _⟩ := h
    rfl
  · obtain ⟨x, s0, z, s, st, tl, rfl, ⟨dx, ss, ls, d, t, ys, zs, hx, _, _, _, _, _, _, ⟨kvs, hd, hst, nd⟩, ht, _⟩, ok, hz, k⟩ := h
    refine ⟨_, (pss_cons (ps_par (i := 3) (j := 4) (by rfl) sc_followed.nd rfl rfl (by decide) rfl rfl (pa_cons (pe_str) (pa_cons (pv 1) pa_nil)) (by rfl))
 (pss_cons (ps_for PassesOwn.never rfl (pi_enumS (by rfl) (T.nb _ (by decide)) (pa_cons (pv 2) pa_nil)) (pg_tup rfl (pgs_cons (pg_name (i := 5) sc_followed.nd rfl (Or.inl rfl)) (pgs_cons (pg_name (i := 6) sc_followed.nd rfl (Or.inl rfl)) pgs_nil)))
 (pss_cons (ps_if (pt_cmp (pc_dnotin (hu_of hr) (pe_tup (pa_cons (pv 4) (pa_cons (pv 6) pa_nil))) (pe_fld (pv 0) rfl)))
 (pss_one (ps_ret (pe_tup (pa_cons (pv 3) (pa_cons (pv 4) (pa_cons (pv 5) pa_nil)))))) pss_nil)
 (pss_cons (ps_asg (pe_dget (hu_of hr) (pe_fld (pv 0) rfl) (pe_tup (pa_cons (pv 4) (pa_cons (pv 6) pa_nil))) (fun _ _ => rfl)) (pg_tup rfl (pgs_cons (pg_name (i := 7) sc_followed.nd rfl (Or.inl rfl)) (pgs_cons (pg_name (i := 8) sc_followed.nd rfl (Or.inl rfl)) pgs_nil))))
 (pss_one (ps_par (i := 3) (j := 4) (by rfl) sc_followed.nd rfl rfl (by decide) rfl rfl (pa_cons (pe_op op_add_str (pv 3) (pv 7)) (pa_cons (pv 8) pa_nil)) (by rfl))))))
 (pss_one (ps_ret (pe_tup (pa_cons (pv 3) (pa_cons (pv 4) (pa_cons (pe_callB call_len (by rfl) (T.nb _ (by decide)) PySem.boot_len (pa_cons (pv 2) pa_nil)) pa_nil)))))))), ?_⟩
    refine ⟨_, rfl, _, _, rfl, ?_⟩
    refine ⟨_, rfl, z, rfl, ?_⟩
    have hz0 : z.cps.size = z.cps.toList.length := by rw [Array.length_toList]
    refine for_it (walk_enumS (z := z)) (fun i σ H' => ∃ (v5 v6 v7 v8 : Option V) (wr s' : Str), σ = [some (.ref x), some (.str s), some (.str z), some (.str wr), some (.str s'), v5, v6, v7, v8] ∧ Same H H' ∧
      wr.length ≤ 4 * i ∧ fol st "" s z.cps.toList 0 = fol st wr s' (z.cps.toList.drop i) i) ⟨_, _, _, _, "", s, rfl, fun _ _ h => h, by decide, by rw [List.drop_zero]⟩ (fun _ _ _ _ _ => True.intro) ?_ ?_
    · rintro i xv σ H1 H2 hi ⟨v5, v6, v7, v8, wr, s', rfl, sm, lw, ef⟩ ⟨T1, x1, y1, rfl, hT, rfl, h1, h2⟩
      obtain rfl : V.int (i : Nat) = x1 := Option.some.inj h1
      obtain ⟨c, hc⟩ : ∃ c, z.cps[i]? = some c := ⟨_, Array.getElem?_eq_getElem hi⟩
      have h2' : (z.cps[i]?).map (fun c => V.str ⟨#[c]⟩) = some y1 := h2
      rw [hc] at h2'
      obtain rfl : V.str ⟨#[c]⟩ = y1 := Option.some.inj h2'
      have hdrop : z.cps.toList.drop i = c :: z.cps.toList.drop (i + 1) := by
        have hil : i < z.cps.toList.length := by omega
        rw [List.drop_eq_getElem_cons hil]
        congr 1
        have := hc
        rw [Array.getElem?_eq_getElem hi] at this
        simpa using this
      rw [hdrop] at ef
      have sm2 : Same H (upd H1 T1 (.tup [.int (i : Nat), .str ⟨#[c]⟩])) := sm.trans (Same.new hT)
      refine ⟨T1, _, rfl, SqT.of upd_same, rfl, _, _, rfl, _, _, rfl, rfl, ?_⟩
      generalize upd H1 T1 (.tup [.int (i : Nat), .str ⟨#[c]⟩]) = G at sm2
      -- the test
      refine ⟨_, rfl, _, rfl, (by show 2 ≤ sizeLine; decide), fun kt hkt => ?_⟩
      have sm3 : Same H (upd G kt (.tup [.str s', .str ⟨#[c]⟩])) := sm2.trans (Same.new hkt)
      have hk : upd G kt (.tup [.str s', .str ⟨#[c]⟩]) kt = some (.tup [.str s', .str ⟨#[c]⟩]) := upd_same
      refine ⟨_, rfl, x, _, dx, _, _, rfl, sm3 _ _ hx, TC.cls, TC.nA _ (by decide), rfl, ?_⟩
      refine ⟨d, _, rfl, .inr ⟨kvs, [.inr s', .inr ⟨#[c]⟩], kt, .inl (sm3 _ _ hd), rfl, hk, rfl⟩, ?_⟩
      rcases (hst.same sm3).get nd s' ⟨#[c]⟩ with ⟨e1, e2⟩ | ⟨a, to, q, e1, e2, e3⟩
      · have ev : fol st wr s' (c :: z.cps.toList.drop (i + 1)) i = (wr, s', i) := by
          unfold fol
          rw [e1]
        rw [ev] at ef
        rw [ef] at k
        rw [e2]
        refine ⟨_, rfl, iteT ?_⟩
        refine ⟨_, rfl, _, rfl, _, rfl, (by show 3 ≤ sizeLine; decide), fun q hq => ?_⟩
        exact k q _ (sm3.free hq) (sm3.trans (Same.new hq)) upd_same
      · have ev : fol st wr s' (c :: z.cps.toList.drop (i + 1)) i = fol st (wr ++ a) to (z.cps.toList.drop (i + 1)) (i + 1) := by
          conv => lhs; unfold fol
          rw [e1]
        rw [ev] at ef
        rw [e2]
        refine ⟨_, rfl, iteF ?_⟩
        have la : a.length ≤ 4 := by
          have := (stepOf_ok e1 ok.ost).1
          unfold isAns okL at this
          simp only [Bool.and_eq_true, decide_eq_true_eq] at this
          omega
        generalize upd G kt (.tup [.str s', .str ⟨#[c]⟩]) = G2 at sm3 e3
        refine ⟨_, rfl, x, _, dx, _, _, rfl, sm3 _ _ hx, TC.cls, TC.nA _ (by decide), rfl, ?_⟩
        refine ⟨_, rfl, _, rfl, (by show 2 ≤ sizeLine; decide), fun kt2 hkt2 => ?_⟩
        have sm4 : Same H (upd G2 kt2 (.tup [.str s', .str ⟨#[c]⟩])) := sm3.trans (Same.new hkt2)
        refine ⟨d, .ref q, rfl, .inr ⟨kvs, [.inr s', .inr ⟨#[c]⟩], kt2, .inl (sm4 _ _ hd), rfl, upd_same, e2.symm⟩, ?_⟩
        refine ⟨q, _, rfl, e3.ext (Same.new hkt2), rfl, _, _, rfl, _, _, rfl, rfl, ?_⟩
        refine ⟨_, rfl, _, rfl, _, _, rfl, rfl, ?_, _, rfl, _, _, rfl, ?_⟩
        · have : wr.length + a.length ≤ 5000 := by omega
          exact Nat.le_trans this (by decide)
        refine ⟨_, _, _, _, wr ++ a, to, rfl, sm4, ?_, ef⟩
        rw [strLen_append]
        omega
    · rintro σ H' ⟨v5, v6, v7, v8, wr, s', rfl, sm, lw, ef⟩
      have hd0 : z.cps.toList.drop z.cps.size = [] := by rw [hz0, List.drop_length]
      rw [hd0] at ef
      have ev : fol st wr s' [] z.cps.size = (wr, s', z.cps.size) := by unfold fol; rfl
      rw [ev] at ef
      rw [ef] at k
      refine ⟨_, rfl, _, rfl, _, rfl, .str z, _, rfl, ⟨?_, rfl⟩, (by show 3 ≤ sizeLine; decide), fun q hq => ?_⟩
      · exact Nat.le_trans (show z.length ≤ 1000 from hz) (by decide)
      · exact k q _ (sm.free hq) (sm.trans (Same.new hq)) upd_same
end
end KC
namespace KC
open PySem L2 PyProof.Rows
theorem okL_le {lo hi : Nat} {s : Str} (h : okL lo hi s = true) : s.length ≤ hi := by
  unfold okL at h
  simp only [Bool.and_eq_true, decide_eq_true_eq] at h
  exact h.2.1
/-- the tail of a state -/
def tailOf (tl : List (Str × Str)) (s : Str) : Option Str := (tl.find? fun e => decide (e.1 = s)).map (·.2)
theorem valV_tl (tl : List (Str × Str)) (s : Str) : valV (tl.map tlKv) (.inr s) = (tailOf tl s).map V.str := by
  unfold valV tailOf
  induction tl with
  | nil => rfl
  | cons e tl ih =>
    rw [List.map_cons, List.find?_cons, List.find?_cons]
    by_cases h : e.1 = s
    · have h1 : decide ((tlKv e).1 = (Sum.inr s : Key)) = true := decide_eq_true (by rw [← h]; rfl)
      rw [h1, decide_eq_true h]
      rfl
    · have h1 : decide ((tlKv e).1 = (Sum.inr s : Key)) = false := decide_eq_false fun z => h (Sum.inr.inj z)
      rw [h1, decide_eq_false h]
      exact ih
structure TxM (K : PySem.W.Frag) (mg : Str → Option Value) : Prop where
  C : TxC K mg
  call : ∃ f fd, CallM K (gC mg) f ∧ MD K "__call__" "Converter.__call__" s_call [] f fd ∧ Binds K fd ["self", "text"] [] ∧ KwI fd ["self", "text"] ["text"]
  iC : PySem.W.findIn K (.ref (gC mg)) "__class__" = some (some (.builtin "object.__class__"))
  iG : PySem.W.specialIn K (.builtin "object.__class__") "__get__" = some (some (.builtin "getset_descriptor.__get__"))
  iT : PySem.W.takesIn K (.builtin "object.__class__") = some true
  iM : PySem.W.mroIn K (gC mg) (.type "object") = some true
  kC : PySem.W.kitOne K (.ref (gC mg)) (.ref (gC mg)) = some true
  kN : ∀ t ∈ ["NoneType", "int", "str", "dict", "list", "bool"], PySem.W.kitOne K (.type t) (.ref (gC mg)) = some false
theorem tailOf_ok {tl : List (Str × Str)} {s t : Str} (h : tailOf tl s = some t) (ok : ∀ e ∈ tl, okTail e) : isAns t = true := by
  unfold tailOf at h
  cases e : tl.find? fun e => decide (e.1 = s) with
  | none =>
    rw [e] at h
    cases h
  | some x =>
    rw [e] at h
    have hx := List.mem_of_find?_eq_some e
    have ex : x.2 = t := Option.some.inj h
    rw [← ex]
    exact (ok x hx).2
/-- a way through the steps: what is written and where it leads, letter by letter -/
inductive Wk (st : List StE) : Str → List Nat → List (Str × Str) → Str → Prop
  | nil (s : Str) : Wk st s [] [] s
  | cons {s a to e : Str} {c : Nat} {cs : List Nat} {ws : List (Str × Str)} : stepOf st s ⟨#[c]⟩ = some (a, to) → Wk st to cs ws e → Wk st s (c :: cs) ((a, to) :: ws) e
def lenW : List (Str × Str) → Nat
  | [] => 0
  | p :: ws => p.1.length + lenW ws
theorem lenW_cons (p : Str × Str) (ws : List (Str × Str)) : lenW (p :: ws) = p.1.length + lenW ws := rfl
theorem Wk.len {st : List StE} {s e : Str} {cs : List Nat} {ws : List (Str × Str)} (h : Wk st s cs ws e) : ws.length = cs.length := by
  induction h with
  | nil s => rfl
  | cons _ _ ih => rw [List.length_cons, List.length_cons, ih]
theorem Wk.le {st : List StE} (ok : ∀ e ∈ st, okStep e) {s e : Str} {cs : List Nat} {ws : List (Str × Str)} (h : Wk st s cs ws e) : (∀ p ∈ ws, p.1.length ≤ 4) ∧ lenW ws ≤ 4 * ws.length := by
  induction h with
  | nil s => exact ⟨fun p hp => (by cases hp), Nat.le_refl _⟩
  | cons h1 _ ih =>
    have la := okL_le (stepOf_ok h1 ok).1
    refine ⟨fun p hp => ?_, ?_⟩
    · rcases List.mem_cons.mp hp with rfl | hp
      · exact la
      · exact ih.1 p hp
    · rw [lenW_cons, List.length_cons]
      have := ih.2
      dsimp only
      omega
/-- what a converter makes of a text -/
inductive Ans where
  | word | step (at_ : Nat) (s : Str) | tail (s : Str) | ok (w : Str)
def ansOf (s : Str) (st : List StE) (tl : List (Str × Str)) (z : Str) : Ans :=
  if isTxt z = true then
    if (fol st "" s z.cps.toList 0).2.2 < z.length then .step (fol st "" s z.cps.toList 0).2.2 (fol st "" s z.cps.toList 0).2.1
    else match tailOf tl (fol st "" s z.cps.toList 0).2.1 with
      | none => .tail (fol st "" s z.cps.toList 0).2.1
      | some t => .ok ((fol st "" s z.cps.toList 0).1 ++ t)
  else .word
theorem fol_len {st : List StE} (ok : ∀ e ∈ st, okStep e) : ∀ (cs : List Nat) (w s : Str) (n : Nat), (fol st w s cs n).1.length ≤ w.length + 4 * cs.length
  | [], w, s, n => by
    unfold fol
    simp
  | c :: cs, w, s, n => by
    unfold fol
    cases e : stepOf st s ⟨#[c]⟩ with
    | none =>
      dsimp only
      omega
    | some p =>
      obtain ⟨a, to⟩ := p
      dsimp only
      have la : a.length ≤ 4 := okL_le (stepOf_ok e ok).1
      have := fol_len ok cs (w ++ a) to (n + 1)
      rw [strLen_append] at this
      rw [List.length_cons]
      omega
end KC
namespace KC
open PySem L2 PyProof.Rows
abbrev s_check_converter : Stmt := top 54
abbrev n_check_converter : List Str := ["converter"]
theorem sc_check_converter : FnScope n_check_converter ["converter"] (defScope s_check_converter) :=
  ⟨rfl, rfl, rfl, by decide +kernel, rfl, by decide +kernel, by decide +kernel⟩
abbrev s_piece : Stmt := top 56
abbrev n_piece : List Str := ["converter", "text", "begin", "end", "written", "state", "many"]
theorem sc_piece : FnScope n_piece ["converter", "text", "begin", "end"] (defScope s_piece) :=
  ⟨rfl, rfl, rfl, by decide +kernel, rfl, by decide +kernel, by decide +kernel⟩
abbrev s_iinteger : Stmt := top 20
abbrev n_iinteger : List Str := ["value"]
theorem sc_iinteger : FnScope n_iinteger ["value"] (defScope s_iinteger) :=
  ⟨rfl, rfl, rfl, by decide +kernel, rfl, by decide +kernel, by decide +kernel⟩
abbrev s_icount : Stmt := top 21
abbrev n_icount : List Str := ["value"]
theorem sc_icount : FnScope n_icount ["value"] (defScope s_icount) :=
  ⟨rfl, rfl, rfl, by decide +kernel, rfl, by decide +kernel, by decide +kernel⟩
structure TxA (K : PySem.W.Frag) (mg : Str → Option Value) : Prop where
  M : TxM K mg
  check : OwnD K mg "check_converter" s_check_converter ["converter"]
  piece : OwnD K mg "piece" s_piece ["converter", "text", "begin", "end"]
  iint : OwnD K mg "is_integer" s_iinteger ["value"]
  icount : OwnD K mg "is_count" s_icount ["value"]
/-- an error that is told: its class by name, its fields -/
def Told (mg : Str → Option Value) (H : Hp) (E : XK) (x : Str) (fs : List (Str × V)) : Prop :=
  ∀ d H', H d = none → Same H H' → H' d = some (.xd fs) → E (.ref (adr mg x)) (some d) H'
theorem Told.same {mg : Str → Option Value} {H H' : Hp} {E : XK} {x : Str} {fs : List (Str × V)} (h : Told mg H E x fs) (s : Same H H') : Told mg H' E x fs :=
  fun d H2 hd s2 e => h d H2 (s.free hd) (s.trans s2) e
structure ErrR (P : Program) (w : World) (K : PySem.W.Frag) (mg : Str → Option Value) (base : Heap) : Prop where
  conv : MkR P w K mg base "BadConverter" ["part"]
  word : MkR P w K mg base "BadWord" ["value"]
  step : MkR P w K mg base "NoStep" ["at", "state"]
  tail : MkR P w K mg base "NoTail" ["state"]
  number : MkR P w K mg base "BadNumber" ["value"]
/-- no text -/
def BadW (K : PySem.W.Frag) (H : Hp) (v : V) : Prop := (∃ z : Str, v = .str z ∧ z.length ≤ 10000 ∧ isTxt z = false) ∨
  ∃ t, (∀ H', Same H H' → TyOf K H' v t) ∧ PySem.W.kitOne K t (.type "str") = some false
/-- no converter -/
def BadC (K : PySem.W.Frag) (C : Addr) (H : Hp) (v : V) : Prop := ∃ t, (∀ H', Same H H' → TyX K H' v t) ∧ PySem.W.kitOne K t (.ref C) = some false
theorem BadW.same {K : PySem.W.Frag} {H H' : Hp} {v : V} (h : BadW K H v) (s : Same H H') : BadW K H' v := by
  rcases h with h | ⟨t, h, e⟩
  · exact .inl h
  · exact .inr ⟨t, fun H2 s2 => h H2 (s.trans s2), e⟩
theorem BadC.same {K : PySem.W.Frag} {C : Addr} {H H' : Hp} {v : V} (h : BadC K C H v) (s : Same H H') : BadC K C H' v := by
  obtain ⟨t, h, e⟩ := h
  exact ⟨t, fun H2 s2 => h H2 (s.trans s2), e⟩
/-- a value that is no place behind last in a text of n letters -/
def BadPl (K : PySem.W.Frag) (H : Hp) (last n : Nat) (u : V) : Prop := (∃ i : Int, u = .int i ∧ (i < last ∨ (n : Int) < i)) ∨ (∃ b, u = .bl b) ∨
  ∃ t, (∀ H', Same H H' → TyOf K H' u t) ∧ PySem.W.kitOne K t (.type "int") = some false
theorem BadPl.same {K : PySem.W.Frag} {H H' : Hp} {last n : Nat} {u : V} (h : BadPl K H last n u) (s : Same H H') : BadPl K H' last n u := by
  rcases h with h | h | ⟨t, h, e⟩
  · exact .inl h
  · exact .inr (.inl h)
  · exact .inr (.inr ⟨t, fun H2 s2 => h H2 (s.trans s2), e⟩)
/-- the part of a text from b to e -/
def sub (z : Str) (b e : Nat) : Str := cutS z (some (b : Int)) (some (e : Int))
theorem sub_list {z : Str} {b e : Nat} (he : e ≤ z.length) (hb : b ≤ e) : (sub z b e).cps.toList = (z.cps.toList.take e).drop b := by
  unfold sub cutS
  rw [HT.sIx_nat, HT.sIx_nat, Nat.min_eq_left (Nat.le_trans hb he), Nat.min_eq_left he, List.drop_take]
theorem sub_len {z : Str} {b e : Nat} (he : e ≤ z.length) (hb : b ≤ e) : (sub z b e).length = e - b := by
  have h : (sub z b e).cps.toList.length = e - b := by
    rw [sub_list he hb, List.length_drop, List.length_take, Array.length_toList]
    have : z.cps.size = z.length := rfl
    omega
  rw [Array.length_toList] at h
  exact h
/-- what a converter makes of the piece from b to e -/
def pieceOf (s : Str) (st : List StE) (tl : List (Str × Str)) (z : Str) (b e : Nat) : Ans :=
  if (fol st "" s (sub z b e).cps.toList 0).2.2 < e - b then .step (b + (fol st "" s (sub z b e).cps.toList 0).2.2) (fol st "" s (sub z b e).cps.toList 0).2.1
  else match tailOf tl (fol st "" s (sub z b e).cps.toList 0).2.1 with
    | none => .tail (fol st "" s (sub z b e).cps.toList 0).2.1
    | some t => .ok ((fol st "" s (sub z b e).cps.toList 0).1 ++ t)
def spCall (K : PySem.W.Frag) (mg : Str → Option Value) : Sp := fun vs H Q E => ∃ (x : Addr) (v : V) (s : Str) (st : List StE) (tl : List (Str × Str)), vs = [.ref x, v] ∧ CvAt K (gC mg) H x s st tl ∧ OkParts s st tl ∧
  ((∃ z : Str, v = .str z ∧ z.length ≤ 10000 ∧ (match ansOf s st tl z with
      | .word => Told mg H E "BadWord" [("value", .str z)]
      | .step i q => Told mg H E "NoStep" [("state", .str q), ("at", .int (i : Nat))]
      | .tail q => Told mg H E "NoTail" [("state", .str q)]
      | .ok a => a.length ≤ 50000 → ∀ H', Same H H' → Q (.str a) H')) ∨
   (∃ t, TyOf K H v t ∧ PySem.W.kitOne K t (.type "str") = some false ∧ Told mg H E "BadWord" [("value", v)]))
section
variable {P : Program} {w : World} {K : PySem.W.Frag} {mg : Str → Option Value} {base : Heap}
def spCheck (K : PySem.W.Frag) (mg : Str → Option Value) : Sp := fun vs H Q E => ∃ v, vs = [v] ∧
  ((∃ (x : Addr) (s : Str) (st : List StE) (tl : List (Str × Str)), v = .ref x ∧ CvAt K (gC mg) H x s st tl ∧ Q .non H) ∨
   (BadC K (gC mg) H v ∧ Told mg H E "BadConverter" [("part", .str "converter")]))
theorem kp_check (TA : TxA K mg) (RZ : ErrR P w K mg base) : KfX P w K mg base 3 "check_converter" ["converter"] (spCheck K mg) := by
  have TM := TA.M
  have TC := TM.C
  have T := TC.T
  refine TA.check.okX sc_check_converter (fun vs H Q E h => ?_) (fun f cdv A outer s H vs Q E hA hr h => ?_)
  · obtain ⟨v, rfl, _⟩ := h
    rfl
  · obtain ⟨v, rfl, h⟩ := h
    refine ⟨_, (pss_one (ps_if (pt_not (pt_val (pe_callB call_isi (by rfl) (T.nb _ (by decide)) (by decide +kernel) (pa_cons (pv 0) (pa_cons (pe_glob (v := .ref (gC mg)) rfl TC.mgC rfl) pa_nil)))))
 (pss_one (ps_rz rfl (takes_of rfl rfl rfl rfl) RZ.conv hr (by rfl) (pa_cons (pe_str) pa_nil))) pss_nil)), ?_⟩
    rcases h with ⟨x, s0, st, tl, rfl, cv, k⟩ | ⟨⟨t, ty, e⟩, k⟩
    · obtain ⟨dx, ss, ls, d, t, ys, zs, c1, _⟩ := id cv
      exact ⟨_, rfl, .ref x, _, _, _, true, rfl, .own _, .base (.ins c1 TC.cls TM.iC TM.iG TM.iT TM.iM), TM.kC, _, rfl, iteF k⟩
    · refine ⟨_, rfl, v, _, _, _, false, rfl, .own _, ty _ (fun _ _ h => h), e, _, rfl, iteT ?_⟩
      exact ⟨rfl, (by show 1 ≤ 900; decide), fun d H' hd sm e => k d H' hd sm e⟩
theorem kp_call (TM : TxM K mg) (RZ : ErrR P w K mg base) : KmeX P w K mg base (gC mg) 3 ["self", "text"] ["text"] (spCall K mg) := by
  have TC := TM.C
  have T := TC.T
  obtain ⟨f, fd, M, F, b0, bk⟩ := TM.call
  have hA : True := trivial
  refine ⟨f, fd, M, b0, bk, F.ok sc_call (fun vs H Q E h => ?_) (fun cdv A outer s H vs Q E hr h => ?_)⟩
  · obtain ⟨x, v, s, st, tl, rfl, _⟩ := h
    rfl
  · obtain ⟨x, v, s, st, tl, rfl, cv, ok, h⟩ := h
    refine ⟨_, (pss_cons (ps_if (pt_not (pt_val (pe_kf (kp_text T) hA hr (by rfl) (pa_cons (pv 1) pa_nil))))
 (pss_one (ps_rz rfl (takes_of rfl rfl rfl rfl) RZ.word hr (by rfl) (pa_cons (pv 1) pa_nil))) pss_nil)
 (pss_cons (ps_asg (pe_kf (kp_followed TC) hA hr (by rfl) (pa_cons (pv 0) (pa_cons (pe_fld (pv 0) rfl) (pa_cons (pv 1) pa_nil)))) (pg_tup rfl (pgs_cons (pg_name (i := 2) sc_call.nd rfl (Or.inl rfl)) (pgs_cons (pg_name (i := 3) sc_call.nd rfl (Or.inl rfl)) (pgs_cons (pg_name (i := 4) sc_call.nd rfl (Or.inl rfl)) pgs_nil)))))
 (pss_cons (ps_if (pt_cmpR op_lt (pv 4) (pe_callB call_len (by rfl) (T.nb _ (by decide)) PySem.boot_len (pa_cons (pv 1) pa_nil)) (nomark _))
 (pss_one (ps_rz rfl (takes_of rfl rfl rfl rfl) RZ.step hr (by rfl) (pa_cons (pv 4) (pa_cons (pv 3) pa_nil)))) pss_nil)
 (pss_cons (ps_if (pt_cmp (pc_dnotin (hu_of hr) (pv 3) (pe_fld (pv 0) rfl)))
 (pss_one (ps_rz rfl (takes_of rfl rfl rfl rfl) RZ.tail hr (by rfl) (pa_cons (pv 3) pa_nil))) pss_nil)
 (pss_one (ps_ret (pe_op op_add_str (pv 2) (pe_dget (hu_of hr) (pe_fld (pv 0) rfl) (pv 3) (fun _ _ => rfl))))))))), ?_⟩
    rcases h with ⟨z, rfl, hz, k⟩ | ⟨t, ty, e, k⟩
    · refine ⟨_, rfl, .str z, rfl, .inl ⟨z, rfl, hz, fun H1 s1 => ?_⟩⟩
      have cv1 := cv.same s1
      cases hT : okL 0 400 z with
      | false =>
        refine ⟨_, rfl, iteT ?_⟩
        have e : ansOf s st tl z = .word := by
          unfold ansOf isTxt
          rw [if_neg (by rw [hT]; exact Bool.false_ne_true)]
        rw [e] at k
        exact ⟨_, rfl, rfl, (by show 1 ≤ 900; decide), fun d H' hd sm e => k d H' (s1.free hd) (s1.trans sm) e⟩
      | true =>
        have l4 : z.length ≤ 400 := okL_le hT
        refine ⟨_, rfl, iteF ?_⟩
        obtain ⟨dx, ss, ls, d, t, ys, zs, c1, c2, c3, c4, c5, c6, c7, c8, c9, c10⟩ := id cv1
        refine ⟨_, rfl, _, rfl, x, _, dx, _, _, rfl, c1, TC.cls, TC.nA _ (by decide), rfl, _, rfl, x, s, z, s, st, tl, rfl, cv1, ok, Nat.le_trans (show z.cps.size ≤ 400 from l4) (by decide), fun q H2 hq s2 eq => ?_⟩
        refine ⟨q, _, rfl, SqT.of eq, rfl, _, _, rfl, _, _, rfl, _, _, rfl, rfl, ?_⟩
        have s02 := s1.trans s2
        have e : ansOf s st tl z = (if (fol st "" s z.cps.toList 0).2.2 < z.length then .step (fol st "" s z.cps.toList 0).2.2 (fol st "" s z.cps.toList 0).2.1
            else match tailOf tl (fol st "" s z.cps.toList 0).2.1 with
              | none => .tail (fol st "" s z.cps.toList 0).2.1
              | some t => .ok ((fol st "" s z.cps.toList 0).1 ++ t)) := by
          unfold ansOf isTxt
          rw [if_pos hT]
          try rfl
        rw [e] at k
        clear e eq
        have fl := fol_len ok.ost z.cps.toList "" s 0
        rw [show z.cps.toList.length = z.length from Array.length_toList] at fl
        generalize fol st "" s z.cps.toList 0 = r at k fl ⊢
        obtain ⟨wr, sz, n⟩ := r
        dsimp only at k fl
        refine ⟨_, rfl, _, rfl, .str z, _, rfl, ⟨?_, rfl⟩, _, _, rfl, rfl, _, rfl, ?_⟩
        · exact Nat.le_trans hz (by decide)
        by_cases hn : n < z.length
        · rw [if_pos hn] at k
          rw [decide_eq_true (show ((n : Nat) : Int) < (z.length : Nat) from Int.ofNat_lt.mpr hn)]
          exact iteT ⟨_, rfl, _, rfl, rfl, (by show 2 ≤ 900; decide), fun d H' hd sm e => k d H' (s02.free hd) (s02.trans sm) e⟩
        · rw [if_neg hn] at k
          rw [decide_eq_false (show ¬ ((n : Nat) : Int) < (z.length : Nat) from fun h => hn (Int.ofNat_lt.mp h))]
          refine iteF ⟨_, rfl, _, rfl, x, _, dx, _, _, rfl, s2 _ _ c1, TC.cls, TC.nA _ (by decide), rfl, t, _, rfl, .inl ⟨_, .inr sz, .inl (s2 _ _ c9), rfl, rfl⟩, _, rfl, ?_⟩
          rw [valV_tl, Option.isSome_map]
          cases ht : tailOf tl sz with
          | none =>
            rw [ht] at k
            exact iteT ⟨_, rfl, rfl, (by show 1 ≤ 900; decide), fun d H' hd sm e => k d H' (s02.free hd) (s02.trans sm) e⟩
          | some u =>
            rw [ht] at k
            dsimp only at k
            have lu : u.length ≤ 4 := okL_le (tailOf_ok ht ok.otl)
            have l0 : ("" : Str).length = 0 := rfl
            have lw : wr.length + u.length ≤ 5000 := by omega
            refine iteF ⟨_, rfl, _, rfl, x, _, dx, _, _, rfl, s2 _ _ c1, TC.cls, TC.nA _ (by decide), rfl, _, rfl, t, .str u, rfl, .inl ⟨_, .inr sz, .inl (s2 _ _ c9), rfl, ?_⟩, _, _, rfl, rfl, Nat.le_trans lw (by decide), ?_⟩
            · rw [valV_tl, ht]
              rfl
            · exact k (by rw [strLen_append]; omega) H2 s02
    · refine ⟨_, rfl, v, rfl, .inr ⟨t, ty, e, ⟨_, rfl, iteT ?_⟩⟩⟩
      exact ⟨_, rfl, rfl, (by show 1 ≤ 900; decide), fun d H' hd sm e => k d H' hd sm e⟩
def spInt (K : PySem.W.Frag) : Sp := fun vs H Q _ => ∃ v, vs = [v] ∧ ((∃ i : Int, v = .int i ∧ Q (.bl true) H) ∨ (∃ b, v = .bl b ∧ Q (.bl false) H) ∨ (∃ t, TyOf K H v t ∧ PySem.W.kitOne K t (.type "int") = some false ∧ Q (.bl false) H))
theorem kp_iint (TA : TxA K mg) : Kf P w K mg base 1 "is_integer" ["value"] (spInt K) := by
  have T := TA.M.C.T
  refine TA.iint.okF sc_iinteger (fun vs H Q E h => ?_) (fun f cdv A outer s H vs Q E hA hr h => ?_)
  · obtain ⟨v, rfl, _⟩ := h
    rfl
  · obtain ⟨v, rfl, h⟩ := h
    refine ⟨_, (pss_one (ps_ret ((pe_and (pe_callB call_isi (by rfl) (T.nb _ (by decide)) (by decide +kernel) (pa_cons (pv 0) (pa_cons (pe_bltn (v := .ty "int") (by rfl) (T.nb _ (by decide)) (by decide +kernel) rfl) pa_nil))) (pe_one (pe_not (pe_callB call_isi (by rfl) (T.nb _ (by decide)) (by decide +kernel) (pa_cons (pv 0) (pa_cons (pe_bltn (v := .ty "bool") (by rfl) (T.nb _ (by decide)) (by decide +kernel) rfl) pa_nil))))))))), ?_⟩
    rcases h with ⟨i, rfl, k⟩ | ⟨b, rfl, k⟩ | ⟨t, ty, e, k⟩
    · refine ⟨_, rfl, .int i, _, _, _, true, rfl, .ty _, .base (.int i), kit_ty (by decide +kernel), _, rfl, iteT ?_⟩
      exact ⟨_, rfl, .int i, _, _, _, false, rfl, .ty _, .base (.int i), kit_ty (by decide +kernel), _, rfl, k⟩
    · refine ⟨_, rfl, .bl b, _, _, _, true, rfl, .ty _, .base (.bl b), kit_ty (by decide +kernel), _, rfl, iteT ?_⟩
      exact ⟨_, rfl, .bl b, _, _, _, true, rfl, .ty _, .base (.bl b), kit_ty (by decide +kernel), _, rfl, k⟩
    · exact ⟨_, rfl, v, _, _, _, false, rfl, .ty _, .base ty, e, _, rfl, iteF k⟩
def spCnt (K : PySem.W.Frag) : Sp := fun vs H Q _ => ∃ v, vs = [v] ∧ ((∃ i : Int, v = .int i ∧ Q (.bl (decide (0 ≤ i))) H) ∨ (∃ b, v = .bl b ∧ Q (.bl false) H) ∨ (∃ t, TyOf K H v t ∧ PySem.W.kitOne K t (.type "int") = some false ∧ Q (.bl false) H))
theorem kp_icount (TA : TxA K mg) : Kf P w K mg base 2 "is_count" ["value"] (spCnt K) := by
  have T := TA.M.C.T
  refine TA.icount.okF sc_icount (fun vs H Q E h => ?_) (fun f cdv A outer s H vs Q E hA hr h => ?_)
  · obtain ⟨v, rfl, _⟩ := h
    rfl
  · obtain ⟨v, rfl, h⟩ := h
    refine ⟨_, (pss_one (ps_ret ((pe_and (pe_kf (kp_iint TA) hA hr (by rfl) (pa_cons (pv 0) pa_nil)) (pe_one (pe_cmpR op_ge (pv 0) (pe_int) (nomark _))))))), ?_⟩
    rcases h with ⟨i, rfl, k⟩ | ⟨b, rfl, k⟩ | ⟨t, ty, e, k⟩
    · exact ⟨_, rfl, _, rfl, .inl ⟨i, rfl, _, rfl, iteT ⟨_, rfl, i, 0, rfl, rfl, k⟩⟩⟩
    · exact ⟨_, rfl, _, rfl, .inr (.inl ⟨b, rfl, _, rfl, iteF k⟩)⟩
    · exact ⟨_, rfl, _, rfl, .inr (.inr ⟨t, ty, e, _, rfl, iteF k⟩)⟩
/-- what is told of an outcome -/
def ToldA (mg : Str → Option Value) (H : Hp) (E : XK) (r : Ans) (OK : Str → Prop) : Prop := match r with
  | .word => False
  | .step i q => Told mg H E "NoStep" [("state", .str q), ("at", .int (i : Nat))]
  | .tail q => Told mg H E "NoTail" [("state", .str q)]
  | .ok a => OK a
def spPiece (K : PySem.W.Frag) (mg : Str → Option Value) : Sp := fun vs H Q E => ∃ (x : Addr) (s : Str) (st : List StE) (tl : List (Str × Str)) (z : Str) (b e : Nat), vs = [.ref x, .str z, .int b, .int e] ∧ CvAt K (gC mg) H x s st tl ∧ OkParts s st tl ∧
  isTxt z = true ∧ b ≤ e ∧ e ≤ z.length ∧ ToldA mg H E (pieceOf s st tl z b e) fun a => a.length ≤ 5000 → ∀ H', Same H H' → Q (.str a) H'
theorem kp_piece (TA : TxA K mg) (RZ : ErrR P w K mg base) : KfX P w K mg base 3 "piece" ["converter", "text", "begin", "end"] (spPiece K mg) := by
  have TM := TA.M
  have TC := TM.C
  have T := TC.T
  refine TA.piece.okX sc_piece (fun vs H Q E h => ?_) (fun f cdv A outer s H vs Q E hA hr h => ?_)
  · obtain ⟨x, s, st, tl, z, b, e, rfl, _⟩ := h
    rfl
  · obtain ⟨x, s, st, tl, z, b, e, rfl, cv, ok, hT, hbe, hez, k⟩ := h
    refine ⟨_, (pss_cons (ps_asg (pe_kf (kp_followed TC) hA hr (by rfl) (pa_cons (pv 0) (pa_cons (pe_fld (pv 0) rfl) (pa_cons (pe_slice sl_str (pv 1) (po_some (pv 2)) (po_some (pv 3))) pa_nil)))) (pg_tup rfl (pgs_cons (pg_name (i := 4) sc_piece.nd rfl (Or.inl rfl)) (pgs_cons (pg_name (i := 5) sc_piece.nd rfl (Or.inl rfl)) (pgs_cons (pg_name (i := 6) sc_piece.nd rfl (Or.inl rfl)) pgs_nil)))))
 (pss_cons (ps_if (pt_cmpR op_lt (pv 6) (pe_op op_sub (pv 3) (pv 2)) (nomark _))
 (pss_one (ps_rz rfl (takes_of rfl rfl rfl rfl) RZ.step hr (by rfl) (pa_cons (pe_op op_add (pv 2) (pv 6)) (pa_cons (pv 5) pa_nil)))) pss_nil)
 (pss_cons (ps_if (pt_cmp (pc_dnotin (hu_of hr) (pv 5) (pe_fld (pv 0) rfl)))
 (pss_one (ps_rz rfl (takes_of rfl rfl rfl rfl) RZ.tail hr (by rfl) (pa_cons (pv 5) pa_nil))) pss_nil)
 (pss_one (ps_ret (pe_op op_add_str (pv 4) (pe_dget (hu_of hr) (pe_fld (pv 0) rfl) (pv 5) (fun _ _ => rfl)))))))), ?_⟩
    have l4 : z.length ≤ 400 := okL_le hT
    obtain ⟨dx, ss, ls, d, t, ys, zs, c1, c2, c3, c4, c5, c6, c7, c8, c9, c10⟩ := id cv
    have yl := sub_len hez hbe
    refine ⟨_, rfl, _, rfl, x, _, dx, _, _, rfl, c1, TC.cls, TC.nA _ (by decide), rfl, _, rfl, _, rfl, _, rfl, _, rfl, _, rfl, z, rfl, Nat.le_trans l4 (by decide), x, s, sub z b e, s, st, tl, rfl, cv, ok, (by show (sub z b e).length ≤ 1000; omega), fun q H2 hq s2 eq => ?_⟩
    refine ⟨q, _, rfl, SqT.of eq, rfl, _, _, rfl, _, _, rfl, _, _, rfl, rfl, ?_⟩
    have fl := fol_len ok.ost (sub z b e).cps.toList "" s 0
    rw [show (sub z b e).cps.toList.length = (sub z b e).length from Array.length_toList] at fl
    unfold pieceOf at k
    clear eq
    generalize fol st "" s (sub z b e).cps.toList 0 = r at k fl ⊢
    obtain ⟨wr, sz, n⟩ := r
    dsimp only at k fl
    refine ⟨_, rfl, _, rfl, _, rfl, _, _, rfl, rfl, _, _, rfl, rfl, _, rfl, ?_⟩
    by_cases hn : n < e - b
    · rw [if_pos hn] at k
      rw [decide_eq_true (show ((n : Nat) : Int) < (e : Int) - (b : Int) by omega)]
      exact iteT ⟨_, rfl, _, rfl, _, _, rfl, rfl, _, rfl, rfl, (by show 2 ≤ 900; decide), fun d H' hd sm eq => k d H' (s2.free hd) (s2.trans sm) (by rw [eq]; congr 4)⟩
    · rw [if_neg hn] at k
      rw [decide_eq_false (show ¬ ((n : Nat) : Int) < (e : Int) - (b : Int) by omega)]
      refine iteF ⟨_, rfl, _, rfl, x, _, dx, _, _, rfl, s2 _ _ c1, TC.cls, TC.nA _ (by decide), rfl, t, _, rfl, .inl ⟨_, .inr sz, .inl (s2 _ _ c9), rfl, rfl⟩, _, rfl, ?_⟩
      rw [valV_tl, Option.isSome_map]
      cases ht : tailOf tl sz with
      | none =>
        rw [ht] at k
        exact iteT ⟨_, rfl, rfl, (by show 1 ≤ 900; decide), fun d H' hd sm e => k d H' (s2.free hd) (s2.trans sm) e⟩
      | some u =>
        rw [ht] at k
        dsimp only at k
        have lu : u.length ≤ 4 := okL_le (tailOf_ok ht ok.otl)
        have l0 : ("" : Str).length = 0 := rfl
        have lw : wr.length + u.length ≤ 5000 := by omega
        refine iteF ⟨_, rfl, _, rfl, x, _, dx, _, _, rfl, s2 _ _ c1, TC.cls, TC.nA _ (by decide), rfl, _, rfl, t, .str u, rfl, .inl ⟨_, .inr sz, .inl (s2 _ _ c9), rfl, ?_⟩, _, _, rfl, rfl, Nat.le_trans lw (by decide), ?_⟩
        · rw [valV_tl, ht]
          rfl
        · exact k (by rw [strLen_append]; omega) H2 s2
end
end KC
namespace KC
open PySem L2 PyProof.Rows
abbrev s_pieces : Stmt := top 57
abbrev n_pieces : List Str := ["converter", "text", "places", "last", "place", "found", "begin", "end"]
theorem sc_pieces : FnScope n_pieces ["converter", "text", "places"] (defScope s_pieces) :=
  ⟨rfl, rfl, rfl, by decide +kernel, rfl, by decide +kernel, by decide +kernel⟩
abbrev s_cost : Stmt := top 58
abbrev n_cost : List Str := ["converter", "text", "at", "whole"]
theorem sc_cost : FnScope n_cost ["converter", "text", "at"] (defScope s_cost) :=
  ⟨rfl, rfl, rfl, by decide +kernel, rfl, by decide +kernel, by decide +kernel⟩
/-- a def of the top that takes any number of arguments -/
def OwnStar (K : PySem.W.Frag) (mg : Str → Option Value) (x : Str) (st : Stmt) : Prop := ∃ (f : Addr) (oc : Value) (od : Option Addr) (kV doc pm : Value) (an : Option Addr) (cdv ct : Value) (osl : Array (Option Value)),
  mg x = some (.ref f) ∧ PySem.W.keepIn K (.ref f) = true ∧ K.lookup f = some ⟨oc, od, .func (PySem.W.fnOf x x (defArgs st) (defBody st) (defScope st) .none kV doc pm an cdv ct), osl⟩ ∧ PySem.W.codeIn K cdv x = true
structure TxS (K : PySem.W.Frag) (mg : Str → Option Value) : Prop where
  pieces : OwnStar K mg "pieces" s_pieces
  cost : OwnK K mg "cost" s_cost ["converter", "text", "at"] ["at", "text", "converter"]
/-- places from last on in a text of n letters; the first that is none -/
inductive Pls (K : PySem.W.Frag) (H : Hp) (n : Nat) : Nat → List V → Option V → Prop
  | nil (l : Nat) : Pls K H n l [] none
  | ok {l p : Nat} {qv : List V} {r : Option V} : l ≤ p → p ≤ n → Pls K H n p qv r → Pls K H n l (.int (p : Nat) :: qv) r
  | bad {l : Nat} {u : V} (qv : List V) : BadPl K H l n u → Pls K H n l (u :: qv) (some u)
theorem Pls.same {K : PySem.W.Frag} {H H' : Hp} {n l : Nat} {qv : List V} {r : Option V} (h : Pls K H n l qv r) (s : Same H H') : Pls K H' n l qv r := by
  induction h with
  | nil l => exact .nil l
  | ok a b _ ih => exact .ok a b ih
  | bad qv h => exact .bad qv (h.same s)
def Asc (n : Nat) : Nat → List Nat → Prop
  | _, [] => True
  | l, p :: ps => l ≤ p ∧ p ≤ n ∧ Asc n p ps
theorem Pls.ints {K : PySem.W.Frag} {H : Hp} {n l : Nat} {qv : List V} {r : Option V} (h : Pls K H n l qv r) : r = none → ∃ ps : List Nat, qv = ps.map (fun p : Nat => V.int p) ∧ Asc n l ps := by
  induction h with
  | nil l => exact fun _ => ⟨[], rfl, trivial⟩
  | ok a b _ ih =>
    intro e
    obtain ⟨ps, e1, e2⟩ := ih e
    exact ⟨_ :: ps, by rw [e1]; rfl, a, b, e2⟩
  | bad qv h => exact fun e => by cases e
theorem Asc.snoc {n : Nat} : ∀ {l : Nat} {ps : List Nat}, Asc n l ps → l ≤ n → Asc n l (ps ++ [n])
  | l, [], _, h => ⟨h, Nat.le_refl _, trivial⟩
  | l, p :: ps, ⟨a, b, c⟩, h => ⟨a, b, Asc.snoc c b⟩
/-- the answers of the pieces from b on -/
def pcs (s : Str) (st : List StE) (tl : List (Str × Str)) (z : Str) : List Str → Nat → List Nat → Ans ⊕ List Str
  | acc, _, [] => .inr acc
  | acc, b, e :: es => match pieceOf s st tl z b e with
    | .ok w => pcs s st tl z (acc ++ [w]) e es
    | a => .inl a
theorem pcs_nil (s : Str) (st : List StE) (tl : List (Str × Str)) (z : Str) (acc : List Str) (b : Nat) : pcs s st tl z acc b [] = .inr acc := rfl
theorem pcs_cons (s : Str) (st : List StE) (tl : List (Str × Str)) (z : Str) (acc : List Str) (b e : Nat) (es : List Nat) : pcs s st tl z acc b (e :: es) = match pieceOf s st tl z b e with
    | .ok w => pcs s st tl z (acc ++ [w]) e es
    | a => .inl a := rfl
def ToldP (mg : Str → Option Value) (H : Hp) (E : XK) (r : Ans ⊕ List Str) (OK : List Str → Prop) : Prop := match r with
  | .inl a => ToldA mg H E a fun _ => True
  | .inr ws => OK ws
theorem ToldA.same {mg : Str → Option Value} {H H' : Hp} {E : XK} {r : Ans} {OK OK' : Str → Prop} (h : ToldA mg H E r OK) (s : Same H H') (m : ∀ w, OK w → OK' w) : ToldA mg H' E r OK' := by
  cases r with
  | word => exact h
  | step i q => exact Told.same h s
  | tail q => exact Told.same h s
  | ok a => exact m a h
theorem ToldP.same {mg : Str → Option Value} {H H' : Hp} {E : XK} {r : Ans ⊕ List Str} {OK OK' : List Str → Prop} (h : ToldP mg H E r OK) (s : Same H H') (m : ∀ ws, OK ws → OK' ws) : ToldP mg H' E r OK' := by
  cases r with
  | inl a => exact ToldA.same h s fun _ h => h
  | inr ws => exact m ws h
def lenS : List Str → Nat
  | [] => 0
  | w :: ws => w.length + lenS ws
theorem str_ext {x y : Str} (h : x.cps.toList = y.cps.toList) : x = y := by
  cases x
  cases y
  congr 1
  exact Array.toList_inj.mp h
def catS : List Str → Str
  | [] => ""
  | w :: ws => w ++ catS ws
theorem app_list (x y : Str) : (x ++ y).cps.toList = x.cps.toList ++ y.cps.toList := by
  show (x.cps ++ y.cps).toList = _
  rw [Array.toList_append]
theorem app_nil (x : Str) : x ++ ("" : Str) = x := str_ext (by rw [app_list]; exact List.append_nil _)
theorem nil_app (x : Str) : ("" : Str) ++ x = x := str_ext (by rw [app_list]; exact List.nil_append _)
theorem app_assoc (x y z : Str) : (x ++ y) ++ z = x ++ (y ++ z) := str_ext (by rw [app_list, app_list, app_list, app_list, List.append_assoc])
theorem join_cat : ∀ ws : List Str, Txt.join "" ws = catS ws := by
  intro ws
  rw [TL.join_eq]
  match ws with
  | [] => rfl
  | [w] =>
    show w = w ++ ("" : Str)
    rw [app_nil]
  | w :: v :: r =>
    have ih := join_cat (v :: r)
    rw [TL.join_eq] at ih
    rw [show Str.join "" (w :: v :: r) = w ++ ("" : Str) ++ Str.join "" (v :: r) from rfl, app_nil, ih]
    rfl
theorem catS_len : ∀ ws : List Str, (catS ws).length = lenS ws
  | [] => rfl
  | w :: ws => by
    show (w ++ catS ws).length = _
    rw [strLen_append, catS_len ws]
    rfl
theorem lenS_le {b : Nat} : ∀ {ws : List Str}, (∀ w ∈ ws, w.length ≤ b) → lenS ws ≤ ws.length * b
  | [], _ => Nat.zero_le _
  | w :: ws, h => by
    have h1 := h w List.mem_cons_self
    have h2 := lenS_le (b := b) fun v hv => h v (List.mem_cons_of_mem _ hv)
    show w.length + lenS ws ≤ (ws.length + 1) * b
    rw [Nat.add_mul]
    omega
theorem lenS_sum : ∀ ws : List Str, (ws.map (·.length)).sum = lenS ws
  | [] => rfl
  | w :: ws => by
    rw [List.map_cons, List.sum_cons, lenS_sum ws]
    rfl
/-- what is asked of a converter and a text -/
def PreP (K : PySem.W.Frag) (mg : Str → Option Value) (v wv : V) (H : Hp) (E : XK) (OK : Addr → Str → List StE → List (Str × Str) → Str → Prop) : Prop :=
  (BadC K (gC mg) H v ∧ Told mg H E "BadConverter" [("part", .str "converter")]) ∨
  (∃ (x : Addr) (s : Str) (st : List StE) (tl : List (Str × Str)), v = .ref x ∧ CvAt K (gC mg) H x s st tl ∧ OkParts s st tl ∧
    ((BadW K H wv ∧ Told mg H E "BadWord" [("value", wv)]) ∨ (∃ z : Str, wv = .str z ∧ isTxt z = true ∧ OK x s st tl z)))
theorem PreP.same {K : PySem.W.Frag} {mg : Str → Option Value} {v wv : V} {H H' : Hp} {E : XK} {OK OK' : Addr → Str → List StE → List (Str × Str) → Str → Prop} (h : PreP K mg v wv H E OK) (sm : Same H H')
    (m : ∀ x s st tl z, CvAt K (gC mg) H x s st tl → OkParts s st tl → isTxt z = true → OK x s st tl z → OK' x s st tl z) : PreP K mg v wv H' E OK' := by
  rcases h with ⟨h, t⟩ | ⟨x, s, st, tl, e, cv, ok, h⟩
  · exact .inl ⟨h.same sm, t.same sm⟩
  · refine .inr ⟨x, s, st, tl, e, cv.same sm, ok, ?_⟩
    rcases h with ⟨h, t⟩ | ⟨z, ez, hT, k⟩
    · exact .inl ⟨h.same sm, t.same sm⟩
    · exact .inr ⟨z, ez, hT, m _ _ _ _ _ cv ok hT k⟩
/-- what is asked of places -/
def PlsOk (K : PySem.W.Frag) (mg : Str → Option Value) (H : Hp) (E : XK) (qv : List V) (Qo : List Str → Prop) : Addr → Str → List StE → List (Str × Str) → Str → Prop := fun _ s st tl z =>
  ∃ r, Pls K H z.length 0 qv r ∧ match r with
    | some u => Told mg H E "BadNumber" [("value", u)]
    | none => ∀ ps : List Nat, qv = ps.map (fun p : Nat => V.int p) → Asc z.length 0 ps → ToldP mg H E (pcs s st tl z [] 0 (ps ++ [z.length])) fun ws => (∀ w ∈ ws, w.length ≤ 5000) → ws.length ≤ qv.length + 1 → Qo ws
section
variable {P : Program} {w : World} {K : PySem.W.Frag} {mg : Str → Option Value} {base : Heap}
def spPcs0 (K : PySem.W.Frag) (mg : Str → Option Value) : Sp := fun vs H Q E => ∃ (v wv : V) (T : Addr) (qv : List V), vs = [v, wv, .ref T] ∧ SqT K H T qv ∧ qv.length ≤ 20 ∧
  PreP K mg v wv H E (PlsOk K mg H E qv fun ws => ∀ (R : Addr) H', Same H H' → H' R = some (.tup (ws.map V.str)) → Q (.ref R) H')
theorem pcs_body (TA : TxA K mg) (RZ : ErrR P w K mg base) {f : Addr} {cdv : Value} {A : Around} {outer : List Env} {s : Shared} {H : Hp} {vs : List V} {Q : VK} {E : XK} (hA : True)
    (hr : Room 4 (A.deeper (envOfC "pieces" (defScope s_pieces) s.heap.objs.size f cdv))) (h : spPcs0 K mg vs H Q E) :
    ∃ t, PSs (cxOf (L2.CX P w) P w K mg base n_pieces "pieces" (defScope s_pieces) f cdv A outer s H E) (defBody s_pieces) t ∧ t { nx := fun _ H' => Q .non H', rt := Q } (start n_pieces vs) H := by
  have TM := TA.M
  have TC := TM.C
  have T := TC.T
  obtain ⟨v, wv, T0, qv, rfl, gT, hl, h⟩ := h
  refine ⟨_, (pss_cons (ps_expr (pe_kfX (kp_check TA RZ) hr (passes_call (takes_of rfl rfl rfl rfl) (fun _ _ _ _ h => h)) (by rfl) (pa_cons (pv 0) pa_nil)))
 (pss_cons (ps_if (pt_not (pt_val (pe_kf (kp_text T) hA hr (by rfl) (pa_cons (pv 1) pa_nil))))
 (pss_one (ps_rz rfl (takes_of rfl rfl rfl rfl) RZ.word hr (by rfl) (pa_cons (pv 1) pa_nil))) pss_nil)
 (pss_cons (ps_set (i := 3) sc_pieces.nd rfl (Or.inl rfl) (pe_int))
 (pss_cons (ps_for (passes_of rfl) rfl (pi_tup (pv 2)) (pg_name (i := 4) sc_pieces.nd rfl (Or.inl rfl))
 (pss_cons (ps_if (PW.pt (pw_or (pt_not (pt_val (pe_kf (kp_icount TA) hA hr (by rfl) (pa_cons (pv 4) pa_nil)))) (pw_or (pt_cmpR op_lt (pv 4) (pv 3) (nomark _)) (pw_or1 (pt_cmpR op_gt (pv 4) (pe_callB call_len (by rfl) (T.nb _ (by decide)) PySem.boot_len (pa_cons (pv 1) pa_nil)) (nomark _))))))
 (pss_one (ps_rz rfl (takes_of rfl rfl rfl rfl) RZ.number hr (by rfl) (pa_cons (pv 4) pa_nil))) pss_nil)
 (pss_one (ps_set (i := 3) sc_pieces.nd rfl (Or.inl rfl) (pv 4)))))
 (pss_cons (ps_set (i := 5) sc_pieces.nd rfl (Or.inl rfl) (pe_lst pa_nil))
 (pss_cons (ps_set (i := 6) sc_pieces.nd rfl (Or.inl rfl) (pe_int))
 (pss_cons (ps_for (passes_of rfl) rfl (pi_list (pe_lst (StX.pa_star (pv 2) (pa_cons (pe_callB call_len (by rfl) (T.nb _ (by decide)) PySem.boot_len (pa_cons (pv 1) pa_nil)) pa_nil)))) (pg_name (i := 7) sc_pieces.nd rfl (Or.inl rfl))
 (pss_cons (ps_expr (pe_bm PySem.F.plainAttrs_list PySem.F.slot_list_append PySem.F.type_list_append mt_append (pv 5) (pa_cons (pe_kfX (kp_piece TA RZ) hr (passes_call (takes_of rfl rfl rfl rfl) (fun _ _ _ _ h => h)) (by rfl) (pa_cons (pv 0) (pa_cons (pv 1) (pa_cons (pv 6) (pa_cons (pv 7) pa_nil))))) pa_nil)))
 (pss_one (ps_set (i := 6) sc_pieces.nd rfl (Or.inl rfl) (pv 7)))))
 (pss_one (ps_ret (pe_callTy call_tuple_of (by rfl) (T.nb _ (by decide)) (by decide +kernel) (pa_cons (pv 5) pa_nil))))))))))), ?_⟩
  rcases h with ⟨hb, k⟩ | ⟨x, s0, st, tl, rfl, cv, ok, h⟩
  · exact ⟨_, rfl, v, rfl, .inr ⟨hb, k⟩⟩
  refine ⟨_, rfl, .ref x, rfl, .inl ⟨x, s0, st, tl, rfl, cv, ?_⟩⟩
  rcases h with ⟨hb, k⟩ | ⟨z, rfl, hT, r, hp, k⟩
  · rcases hb with ⟨z, rfl, hz, hT⟩ | ⟨t, ty, e⟩
    · refine ⟨_, rfl, .str z, rfl, .inl ⟨z, rfl, hz, fun H1 s1 => ?_⟩⟩
      rw [show okL 0 400 z = false from hT]
      refine ⟨_, rfl, iteT ?_⟩
      exact ⟨_, rfl, rfl, (by show 1 ≤ 900; decide), fun d H' hd sm e => k d H' (s1.free hd) (s1.trans sm) e⟩
    · refine ⟨_, rfl, wv, rfl, .inr ⟨t, ty _ (fun _ _ h => h), e, ⟨_, rfl, iteT ?_⟩⟩⟩
      exact ⟨_, rfl, rfl, (by show 1 ≤ 900; decide), fun d H' hd sm e => k d H' hd sm e⟩
  have l4 : z.length ≤ 400 := okL_le hT
  refine ⟨_, rfl, .str z, rfl, .inl ⟨z, rfl, by omega, fun H1 s1 => ?_⟩⟩
  rw [show okL 0 400 z = true from hT]
  refine ⟨_, rfl, iteF ?_⟩
  refine ⟨_, rfl, T0, rfl, ⟨qv, gT.ext s1⟩, ?_⟩
  refine for_it (walk_tup (K := K) (a := T0) (xs := qv)) (fun i σ H' => ∃ (v4 v5 v6 v7 : Option V) (l : Nat), σ = [some (.ref x), some (.str z), some (.ref T0), some (.int (l : Nat)), v4, v5, v6, v7] ∧ Same H H' ∧ Pls K H' z.length l (qv.drop i) r)
    ⟨_, _, _, _, 0, rfl, s1, by rw [List.drop_zero]; exact hp.same s1⟩ (fun i σ H' _ ⟨_, _, _, _, _, _, sm, _⟩ => gT.ext sm) ?_ ?_
  · rintro i u σ H2 H3 hi ⟨v4, v5, v6, v7, l, rfl, sm, hpl⟩ ⟨rfl, hu⟩
    rw [List.drop_eq_getElem_cons hi] at hpl
    have eu : qv[i] = u := by
      rw [List.getElem?_eq_getElem hi] at hu
      exact Option.some.inj hu
    rw [eu] at hpl
    generalize hd : qv.drop (i + 1) = rest at hpl
    clear eu hu
    cases hpl with
    | ok a b hp2 =>
      rename_i p
      refine ⟨_, rfl, _, rfl, .inl ⟨_, rfl, _, rfl, ?_⟩⟩
      rw [decide_eq_true (show (0 : Int) ≤ ((p : Nat) : Int) by omega)]
      refine iteF ⟨_, rfl, _, rfl, _, _, rfl, rfl, _, rfl, ?_⟩
      rw [decide_eq_false (show ¬ ((p : Nat) : Int) < (l : Nat) by omega)]
      refine iteF ⟨_, rfl, _, rfl, .str z, _, rfl, ⟨Nat.le_trans l4 (by decide), rfl⟩, _, _, rfl, rfl, _, rfl, ?_⟩
      rw [decide_eq_false (show ¬ ((z.length : Nat) : Int) < (p : Nat) by omega)]
      refine iteF ⟨_, rfl, ?_⟩
      exact ⟨_, _, _, _, p, rfl, sm, hp2⟩
    | bad _ hb =>
      have tell : ∀ G : Hp, Same H G → _ := fun G sG => (⟨_, rfl, rfl, (by show 1 ≤ 900; decide), fun d H' hd sm2 e => k d H' (sG.free hd) (sG.trans sm2) e⟩ : tRz (adr mg "BadNumber") ["value"] (tCons (tVar 4) tNil) [some (.ref x), some (.str z), some (.ref T0), some (.int (l : Nat)), some u, v5, v6, v7] G fun cls d H' => E cls d H')
      rcases hb with ⟨i, rfl, hi⟩ | ⟨c, rfl⟩ | ⟨t, ty, e⟩
      · refine ⟨_, rfl, _, rfl, .inl ⟨_, rfl, _, rfl, ?_⟩⟩
        rcases hi with hi | hi
        · cases h0 : decide ((0 : Int) ≤ i) with
          | false => exact iteT (iteT (tell _ sm))
          | true =>
            refine iteF ⟨_, rfl, _, rfl, _, _, rfl, rfl, _, rfl, ?_⟩
            rw [decide_eq_true hi]
            exact iteT (iteT (tell _ sm))
        · rw [decide_eq_true (show (0 : Int) ≤ i by omega)]
          refine iteF ⟨_, rfl, _, rfl, _, _, rfl, rfl, _, rfl, ?_⟩
          by_cases h1 : i < (l : Nat)
          · rw [decide_eq_true h1]
            exact iteT (iteT (tell _ sm))
          rw [decide_eq_false h1]
          refine iteF ⟨_, rfl, _, rfl, .str z, _, rfl, ⟨Nat.le_trans l4 (by decide), rfl⟩, _, _, rfl, rfl, _, rfl, ?_⟩
          rw [decide_eq_true (show ((z.length : Nat) : Int) < i from hi)]
          exact iteT (tell _ sm)
      · exact ⟨_, rfl, _, rfl, .inr (.inl ⟨_, rfl, _, rfl, iteT (iteT (tell _ sm))⟩)⟩
      · exact ⟨_, rfl, _, rfl, .inr (.inr ⟨t, ty _ (fun _ _ h => h), e, _, rfl, iteT (iteT (tell _ sm))⟩)⟩
  · rintro σ H2 ⟨v4, v5, v6, v7, l, rfl, sm, hpl⟩
    rw [List.drop_length] at hpl
    cases hpl
    obtain ⟨ps, ep, asc⟩ := hp.ints rfl
    have k := k ps ep asc
    have lps : ps.length ≤ 20 := by
      rw [ep, List.length_map] at hl
      exact hl
    refine ⟨(by show 0 ≤ sizeLine; decide), fun L hL => ?_⟩
    have hL0 : H L = none := sm.free hL
    have s3 : Same H (upd H2 L (.lst [])) := sm.trans (Same.new hL)
    have gL : upd H2 L (.lst []) L = some (.lst (([] : List Str).map V.str)) := upd_same
    generalize upd H2 L (.lst []) = H3 at s3 gL
    refine ⟨_, rfl, T0, qv, rfl, .inl (gT.ext s3), _, rfl, .str z, _, rfl, ⟨Nat.le_trans l4 (by decide), rfl⟩, ?_, fun M hM => ?_⟩
    · rw [List.length_append]
      exact Nat.le_trans (Nat.add_le_add_right hl 1) (by decide)
    have em : qv ++ [V.int (z.length : Nat)] = (ps ++ [z.length]).map (fun p : Nat => V.int p) := by
      rw [ep, List.map_append]
      rfl
    show (fun G : Hp => _) (upd H3 M (.lst (qv ++ [V.int (z.length : Nat)])))
    rw [em]
    have nML : M ≠ L := fun e => by rw [e, gL] at hM; cases hM
    have s4 : Same H (upd H3 M (.lst ((ps ++ [z.length]).map (fun p : Nat => V.int p)))) := s3.trans (Same.new hM)
    have gL := upd_new (u := .lst ((ps ++ [z.length]).map (fun p : Nat => V.int p))) hM gL
    have gM : upd H3 M (.lst ((ps ++ [z.length]).map (fun p : Nat => V.int p))) M = some (.lst ((ps ++ [z.length]).map (fun p : Nat => V.int p))) := upd_same
    generalize upd H3 M (.lst ((ps ++ [z.length]).map (fun p : Nat => V.int p))) = H4 at s4 gL gM
    refine ⟨M, rfl, ⟨_, SqL.of gM⟩, ?_⟩
    have asc2 := asc.snoc (Nat.zero_le _)
    have le2 : (ps ++ [z.length]).length = ps.length + 1 := by
      rw [List.length_append]
      rfl
    generalize ps ++ [z.length] = es at k asc2 gM le2
    refine for_it (walk_list (K := K) (a := M) (xs := es.map (fun p : Nat => V.int p))) (fun i σ H' => ∃ (v7 : Option V) (b : Nat) (acc : List Str), σ = [some (.ref x), some (.str z), some (.ref T0), some (.int (l : Nat)), v4, some (.ref L), some (.int (b : Nat)), v7] ∧ Same H H' ∧
      H' L = some (.lst (acc.map V.str)) ∧ H' M = some (.lst (es.map (fun p : Nat => V.int p))) ∧ acc.length = i ∧ (∀ w ∈ acc, w.length ≤ 5000) ∧ Asc z.length b (es.drop i) ∧ pcs s0 st tl z [] 0 es = pcs s0 st tl z acc b (es.drop i))
      ⟨_, 0, [], rfl, s4, gL, gM, rfl, (fun w hw => by cases hw), asc2, rfl⟩ (fun i σ H' _ ⟨_, _, _, _, _, _, q, _⟩ => SqL.of q) ?_ ?_
    · rintro i u σ G G2 hi ⟨v7, b, acc, rfl, sm, gL, gM, la, lw, ac, ek⟩ ⟨rfl, hu⟩
      rw [List.length_map] at hi
      rw [List.getElem?_map, List.getElem?_eq_getElem hi] at hu
      obtain rfl : V.int (es[i] : Nat) = u := Option.some.inj hu
      rw [List.drop_eq_getElem_cons hi] at ek ac
      generalize es[i] = e at ek ac
      generalize es.drop (i + 1) = rest at ek ac
      obtain ⟨a1, a2, a3⟩ := ac
      rw [ek, pcs_cons] at k
      rw [pcs_cons] at ek
      refine ⟨_, rfl, .inl ⟨rfl, _, SqL.of gL⟩, _, rfl, _, rfl, _, rfl, _, rfl, x, s0, st, tl, z, b, e, rfl, cv.same sm, ok, hT, a1, a2, ?_⟩
      cases hq : pieceOf s0 st tl z b e with
      | word =>
        rw [hq] at k
        exact k
      | step j q =>
        rw [hq] at k
        exact Told.same k sm
      | tail q =>
        rw [hq] at k
        exact Told.same k sm
      | ok a =>
        rw [hq] at ek
        refine fun l5 G5 s5 => ?_
        refine ⟨L, acc.map V.str, .str a, rfl, rfl, s5 _ _ gL, ?_, ?_⟩
        · rw [List.length_map, la]
          exact Nat.lt_of_lt_of_le hi (Nat.le_trans (show es.length ≤ 21 by omega) (by decide))
        have g2 : upd G5 L (.lst (acc.map V.str ++ [.str a])) L = some (.lst ((acc ++ [a]).map V.str)) := by
          rw [upd_same, List.map_append]
          rfl
        refine ⟨_, rfl, ?_⟩
        refine ⟨_, e, acc ++ [a], rfl, fun b' o eb => upd_oth (fun z => by rw [z, hL0] at eb; cases eb) ((sm.trans s5) _ _ eb), g2, upd_oth nML (s5 _ _ gM), by rw [List.length_append, la]; rfl, ?_, a3, ek⟩
        intro w hw
        rcases List.mem_append.mp hw with h | h
        · exact lw w h
        · rw [List.mem_singleton.mp h]
          exact l5
    · rintro σ G ⟨v7, b, acc, rfl, sm, gL, gM, la, lw, ac, ek⟩
      rw [List.length_map, List.drop_length, pcs_nil] at ek
      rw [ek] at k
      rw [List.length_map] at la
      refine ⟨_, rfl, L, _, rfl, .inl ⟨SqL.of gL, fun R hR => k lw ?_ R _ (sm.trans (Same.new hR)) upd_same⟩⟩
      rw [la, ep, List.length_map, le2]
      exact Nat.le_refl _
def spPcs (K : PySem.W.Frag) (mg : Str → Option Value) : Sp := fun vs H Q E => ∃ (v wv : V) (qv : List V), vs = v :: wv :: qv ∧ qv.length ≤ 20 ∧
  PreP K mg v wv H E (PlsOk K mg H E qv fun ws => ∀ (R : Addr) H', Same H H' → H' R = some (.tup (ws.map V.str)) → Q (.ref R) H')
theorem kp_pieces (TA : TxA K mg) (TS : TxS K mg) (RZ : ErrR P w K mg base) : KfS P w K mg base 5 "pieces" (spPcs K mg) := by
  obtain ⟨f, oc, od, kV, doc, pm, an, cdv, ct, osl, hm, hk, lk, hcd⟩ := TS.pieces
  refine ⟨f, hm, hk, (StX.fn_star (k := 4) (ps := ["converter", "text"]) (pv := "places") (sp := spPcs0 K mg) lk hcd sc_pieces StX.cxUp ?_ ?_).imp ?_⟩
  · intro us rest hl
    match us, hl with
    | [a, b], _ => cases rest with
      | nil => rfl
      | cons r rs => rfl
  · intro A outer s H vs Q E hr h
    exact pcs_body TA RZ trivial hr h
  · rintro vs H Q E ⟨v, wv, qv, rfl, hl, h⟩
    refine ⟨[v, wv], qv, rfl, rfl, Nat.le_trans hl (by decide), fun p hp => ?_⟩
    have sn : Same H (upd H p (.tup qv)) := Same.new hp
    refine ⟨v, wv, p, qv, rfl, SqT.of upd_same, hl, h.same sn fun x s st tl z _ _ _ hk => ?_⟩
    obtain ⟨r, h1, h2⟩ := hk
    refine ⟨r, h1.same sn, ?_⟩
    cases r with
    | some u => exact Told.same h2 sn
    | none => exact fun ps e a => ToldP.same (h2 ps e a) sn fun ws q l1 l2 R H' s' => q l1 l2 R H' (sn.trans s')
/-- what is asked of a cost -/
def CostOk (K : PySem.W.Frag) (mg : Str → Option Value) (H : Hp) (E : XK) (u : V) (Qo : Int → Prop) : Addr → Str → List StE → List (Str × Str) → Str → Prop := fun _ s st tl z =>
  ToldA mg H E (ansOf s st tl z) fun a => (BadPl K H 0 z.length u ∧ Told mg H E "BadNumber" [("value", u)]) ∨
    (∃ p : Nat, u = .int p ∧ p ≤ z.length ∧ ToldP mg H E (pcs s st tl z [] 0 [p, z.length]) fun ws => Qo ((lenS ws : Nat) - (a.length : Nat)))
def spCost (K : PySem.W.Frag) (mg : Str → Option Value) : Sp := fun vs H Q E => ∃ v wv u : V, vs = [v, wv, u] ∧ PreP K mg v wv H E (CostOk K mg H E u fun i => ∀ H', Same H H' → Q (.int i) H')
theorem sp_cost_len : ∀ vs H Q E, spCost K mg vs H Q E → vs.length = (["at", "text", "converter"] : List Str).length := by
  rintro vs H Q E ⟨v, wv, u, rfl, _⟩
  rfl
theorem kp_cost (TA : TxA K mg) (TS : TxS K mg) (RZ : ErrR P w K mg base) : KfX P w K mg base 6 "cost" ["converter", "text", "at"] (spCost K mg) ∧ KfXV P w K mg base 6 "cost" ["converter", "text", "at"] ["at", "text", "converter"] (spCost K mg) := by
  have TM := TA.M
  have TC := TM.C
  have T := TC.T
  refine TS.cost.okX sc_cost (fun vs H Q E h => ?_) (fun f cdv A outer s H vs Q E hA hr h => ?_)
  · obtain ⟨v, wv, u, rfl, _⟩ := h
    rfl
  · obtain ⟨v, wv, u, rfl, h⟩ := h
    refine ⟨_, (pss_cons (ps_expr (pe_kfX (kp_check TA RZ) hr (passes_call (takes_of rfl rfl rfl rfl) (fun _ _ _ _ h => h)) (by rfl) (pa_cons (pv 0) pa_nil)))
 (pss_cons (ps_set (i := 3) sc_cost.nd rfl (Or.inl rfl) (pe_kmeX (kp_call TA.M RZ) hr (passes_call (takes_of rfl rfl rfl rfl) (fun _ _ _ _ h => h)) (pv 0) (pa_cons (pv 1) pa_nil)))
 (pss_one (ps_ret (pe_op op_sub (pe_callB call_len (by rfl) (T.nb _ (by decide)) PySem.boot_len (pa_cons (pe_join (pe_str) (pe_kfS (kp_pieces TA TS RZ) hr (passes_call (takes_of rfl rfl rfl rfl) (fun _ _ _ _ h => h)) (by rfl) (pa_cons (pv 0) (pa_cons (pv 1) (pa_cons (pv 2) pa_nil))))) pa_nil)) (pe_callB call_len (by rfl) (T.nb _ (by decide)) PySem.boot_len (pa_cons (pv 3) pa_nil))))))), ?_⟩
    rcases h with ⟨hb, k⟩ | ⟨x, s0, st, tl, rfl, cv, ok, h⟩
    · exact ⟨_, rfl, v, rfl, .inr ⟨hb, k⟩⟩
    refine ⟨_, rfl, .ref x, rfl, .inl ⟨x, s0, st, tl, rfl, cv, ?_⟩⟩
    rcases h with ⟨hb, k⟩ | ⟨z, rfl, hT, k⟩
    · obtain ⟨dx, ss, ls, d, t, ys, zs, c1, _⟩ := id cv
      rcases hb with ⟨z, rfl, hz, hT⟩ | ⟨t, ty, e⟩
      · refine ⟨_, rfl, x, rfl, _, rfl, _, _, c1, x, .str z, s0, st, tl, rfl, cv, ok, .inl ⟨z, rfl, hz, ?_⟩⟩
        have e : ansOf s0 st tl z = .word := by
          unfold ansOf
          rw [if_neg (by rw [hT]; exact Bool.false_ne_true)]
        rw [e]
        exact k
      · exact ⟨_, rfl, x, rfl, _, rfl, _, _, c1, x, wv, s0, st, tl, rfl, cv, ok, .inr ⟨t, ty _ (fun _ _ h => h), e, k⟩⟩
    obtain ⟨dx, ss, ls, d, t, ys, zs, c1, _⟩ := id cv
    have l4 : z.length ≤ 400 := okL_le hT
    refine ⟨_, rfl, x, rfl, _, rfl, _, _, c1, x, .str z, s0, st, tl, rfl, cv, ok, .inl ⟨z, rfl, by omega, ?_⟩⟩
    unfold CostOk at k
    cases ha : ansOf s0 st tl z with
    | word =>
      rw [ha] at k
      exact False.elim k
    | step i q =>
      rw [ha] at k
      exact k
    | tail q =>
      rw [ha] at k
      exact k
    | ok a =>
      rw [ha] at k
      refine fun la H1 s1 => ?_
      rcases k with ⟨hb, k⟩ | ⟨p, rfl, hp, k⟩
      · exact ⟨⟨_, rfl⟩, _, rfl, _, rfl, _, rfl, .ref x, .str z, [u], rfl, (by show 1 ≤ 20; decide), .inr ⟨x, s0, st, tl, rfl, cv.same s1, ok, .inr ⟨z, rfl, hT, some u, .bad [] (hb.same s1), Told.same k s1⟩⟩⟩
      refine ⟨⟨_, rfl⟩, _, rfl, _, rfl, _, rfl, .ref x, .str z, [.int (p : Nat)], rfl, (by show 1 ≤ 20; decide), .inr ⟨x, s0, st, tl, rfl, cv.same s1, ok, .inr ⟨z, rfl, hT, none, .ok (Nat.zero_le _) hp (.nil _), fun ps ep asc => ?_⟩⟩⟩
      obtain rfl : ps = [p] := by
        match ps, ep with
        | [q], ep =>
          have := List.cons.inj ep
          rw [Int.ofNat.inj (V.int.inj this.1)]
        | [], ep => cases ep
        | _ :: _ :: _, ep => cases ep
      refine ToldP.same k s1 fun ws q l1 l2 R H2 s2 gR => ?_
      have lw := lenS_le l1
      have lz : lenS ws ≤ 10000 := Nat.le_trans lw (Nat.mul_le_mul_right 5000 (show ws.length ≤ 2 from l2))
      refine ⟨"", R, ws, rfl, rfl, .inr (SqT.of gR), ?_, .str (Txt.join "" ws), _, rfl, ⟨?_, rfl⟩, _, rfl, .str a, _, rfl, ⟨Nat.le_trans la (by decide), rfl⟩, _, _, rfl, rfl, ?_⟩
      · rw [lenS_sum]
        exact Nat.le_trans (Nat.add_le_add_right lz _) (by show 10000 + ws.length * 0 ≤ _; omega)
      · rw [join_cat, catS_len]
        exact Nat.le_trans lz (by decide)
      · rw [join_cat, catS_len]
        exact q H2 (s1.trans s2)
end
end KC
namespace KC
open PySem L2 PyProof.Rows
/-- a step put in -/
def putSt (st : List StE) (e : StE) : List StE :=
  if (st.any fun x => decide (x.1 = e.1)) = true then st.map (fun x => if x.1 = e.1 then (x.1, e.2) else x) else st ++ [e]
def putTl (tl : List (Str × Str)) (e : Str × Str) : List (Str × Str) :=
  if (tl.any fun x => decide (x.1 = e.1)) = true then tl.map (fun x => if x.1 = e.1 then (x.1, e.2) else x) else tl ++ [e]
theorem stK_eq (x e : StE) : stK x = stK e ↔ x.1 = e.1 := by
  unfold stK
  constructor
  · intro h
    have h1 := List.cons.inj h
    have h2 := List.cons.inj h1.2
    exact Prod.ext (Sum.inr.inj h1.1) (Sum.inr.inj h2.1)
  · intro h
    rw [h]
theorem nd_put {κ : Type} [DecidableEq κ] {kvs : List (κ × V)} {k : κ} {v : V} (nd : (kvs.map (·.1)).Nodup) : ((putK kvs k v).map (·.1)).Nodup := by
  unfold putK
  split
  · rename_i h
    have e : ((kvs.map fun kv => if kv.1 = k then (kv.1, v) else kv).map (·.1)) = kvs.map (·.1) := by
      rw [List.map_map]
      refine List.map_congr_left fun x _ => ?_
      show (if x.1 = k then (x.1, v) else x).1 = x.1
      split <;> rfl
    rw [e]
    exact nd
  · rename_i h
    rw [List.map_append, List.nodup_append]
    refine ⟨nd, by simp, ?_⟩
    intro a ha b hb z
    simp only [List.map_cons, List.map_nil, List.mem_singleton] at hb
    subst hb
    obtain ⟨x, hx, e⟩ := List.mem_map.mp ha
    refine h ?_
    rw [List.any_eq_true]
    exact ⟨x, hx, decide_eq_true (e.trans z)⟩
theorem any_st {K : PySem.W.Frag} {H : Hp} {kvs : List (List Key × V)} {st : List StE} (h : StK K H kvs st) (e : StE) :
    (kvs.any fun kv => decide (kv.1 = stK e)) = (st.any fun x => decide (x.1 = e.1)) := by
  have e1 : (kvs.any fun kv => decide (kv.1 = stK e)) = ((kvs.map (·.1)).any fun k => decide (k = stK e)) := by rw [List.any_map]; rfl
  have e2 : (st.any fun x => decide (x.1 = e.1)) = ((st.map stK).any fun k => decide (k = stK e)) := by
    rw [List.any_map]
    congr 1
    funext x
    exact decide_eq_decide.mpr (stK_eq x e).symm
  rw [e1, e2, h.1]
theorem StK.put {K : PySem.W.Frag} {H : Hp} {kvs : List (List Key × V)} {st : List StE} {e : StE} {q : Addr} (h : StK K H kvs st) (hq : SqT K H q [.str e.2.1, .str e.2.2]) :
    StK K H (putK kvs (stK e) (.ref q)) (putSt st e) := by
  have ha := any_st h e
  unfold putK putSt
  rw [ha]
  by_cases c : (st.any fun x => decide (x.1 = e.1)) = true
  · rw [if_pos c, if_pos c]
    refine ⟨?_, fun i y hy => ?_⟩
    · rw [List.map_map, List.map_map]
      have e1 : (kvs.map ((fun x => x.1) ∘ fun kv => if kv.1 = stK e then (kv.1, V.ref q) else kv)) = kvs.map (·.1) := by
        refine List.map_congr_left fun x _ => ?_
        show (if x.1 = stK e then (x.1, V.ref q) else x).1 = x.1
        split <;> rfl
      have e2 : (st.map (stK ∘ fun x => if x.1 = e.1 then (x.1, e.2) else x)) = st.map stK := by
        refine List.map_congr_left fun x _ => ?_
        show stK (if x.1 = e.1 then (x.1, e.2) else x) = stK x
        split <;> rfl
      rw [e1, e2, h.1]
    · rw [List.getElem?_map] at hy
      cases hx : st[i]? with
      | none => rw [hx] at hy; cases hy
      | some x =>
        rw [hx] at hy
        obtain ⟨r, a1, a2⟩ := h.2 i x hx
        have hy' : (if x.1 = e.1 then (x.1, e.2) else x) = y := Option.some.inj hy
        by_cases d : x.1 = e.1
        · rw [if_pos d] at hy'
          subst hy'
          refine ⟨q, ?_, hq⟩
          rw [List.getElem?_map, a1]
          show some (if stK x = stK e then (stK x, V.ref q) else (stK x, V.ref r)) = some (stK (x.1, e.2), V.ref q)
          rw [if_pos ((stK_eq x e).mpr d)]
          rfl
        · rw [if_neg d] at hy'
          subst hy'
          refine ⟨r, ?_, a2⟩
          rw [List.getElem?_map, a1]
          show some (if stK x = stK e then (stK x, V.ref q) else (stK x, V.ref r)) = some (stK x, V.ref r)
          rw [if_neg (fun z => d ((stK_eq x e).mp z))]
  · rw [if_neg c, if_neg c]
    refine ⟨?_, fun i y hy => ?_⟩
    · rw [List.map_append, List.map_append, h.1]
      rfl
    · by_cases hi : i < st.length
      · rw [List.getElem?_append_left hi] at hy
        obtain ⟨r, a1, a2⟩ := h.2 i y hy
        refine ⟨r, ?_, a2⟩
        rw [List.getElem?_append_left (by rw [h.len]; exact hi)]
        exact a1
      · rw [List.getElem?_append_right (by omega)] at hy
        have hi0 : i - st.length = 0 := by
          cases hz : i - st.length with
          | zero => rfl
          | succ n => rw [hz] at hy; simp at hy
        rw [hi0] at hy
        simp at hy
        subst hy
        refine ⟨q, ?_, hq⟩
        rw [List.getElem?_append_right (by rw [h.len]; omega), h.len, hi0]
        rfl
theorem tlKv_put (tl : List (Str × Str)) (e : Str × Str) : putK (tl.map tlKv) (.inr e.1) (.str e.2) = (putTl tl e).map tlKv := by
  unfold putK putTl
  have e1 : ((tl.map tlKv).any fun kv => decide (kv.1 = (Sum.inr e.1 : Key))) = (tl.any fun x => decide (x.1 = e.1)) := by
    rw [List.any_map]
    congr 1
    funext x
    exact decide_eq_decide.mpr ⟨fun z => Sum.inr.inj z, fun z => by show (Sum.inr x.1 : Key) = _; rw [z]⟩
  rw [e1]
  split
  · rw [List.map_map, List.map_map]
    refine List.map_congr_left fun x _ => ?_
    show (if (Sum.inr x.1 : Key) = Sum.inr e.1 then (Sum.inr x.1, V.str e.2) else (Sum.inr x.1, V.str x.2)) = tlKv (if x.1 = e.1 then (x.1, e.2) else x)
    by_cases d : x.1 = e.1
    · rw [if_pos d, if_pos (by rw [d])]
      rfl
    · rw [if_neg d, if_neg (fun z => d (Sum.inr.inj z))]
      rfl
  · rw [List.map_append]
    rfl
theorem nd_putTl {tl : List (Str × Str)} {e : Str × Str} (nd : (tl.map (·.1)).Nodup) : ((putTl tl e).map (·.1)).Nodup := by
  unfold putTl
  split
  · have e1 : ((tl.map fun x => if x.1 = e.1 then (x.1, e.2) else x).map (·.1)) = tl.map (·.1) := by
      rw [List.map_map]
      refine List.map_congr_left fun x _ => ?_
      show (if x.1 = e.1 then (x.1, e.2) else x).1 = x.1
      split <;> rfl
    rw [e1]
    exact nd
  · rename_i h
    rw [List.map_append, List.nodup_append]
    refine ⟨nd, by simp, ?_⟩
    intro a ha b hb z
    simp only [List.map_cons, List.map_nil, List.mem_singleton] at hb
    subst hb
    obtain ⟨x, hx, ex⟩ := List.mem_map.mp ha
    refine h ?_
    rw [List.any_eq_true]
    exact ⟨x, hx, decide_eq_true (ex.trans z)⟩
theorem mem_putSt {st : List StE} {e x : StE} (h : x ∈ putSt st e) : x = e ∨ x ∈ st ∨ (∃ y ∈ st, y.1 = x.1 ∧ x.2 = e.2) := by
  unfold putSt at h
  split at h
  · obtain ⟨y, hy, rfl⟩ := List.mem_map.mp h
    by_cases d : y.1 = e.1
    · rw [if_pos d]
      exact .inr (.inr ⟨y, hy, rfl, rfl⟩)
    · rw [if_neg d]
      exact .inr (.inl hy)
  · rcases List.mem_append.mp h with h | h
    · exact .inr (.inl h)
    · exact .inl (List.mem_singleton.mp h)
theorem mem_putTl {tl : List (Str × Str)} {e x : Str × Str} (h : x ∈ putTl tl e) : x = e ∨ x ∈ tl ∨ (∃ y ∈ tl, y.1 = x.1 ∧ x.2 = e.2) := by
  unfold putTl at h
  split at h
  · obtain ⟨y, hy, rfl⟩ := List.mem_map.mp h
    by_cases d : y.1 = e.1
    · rw [if_pos d]
      exact .inr (.inr ⟨y, hy, rfl, rfl⟩)
    · rw [if_neg d]
      exact .inr (.inl hy)
  · rcases List.mem_append.mp h with h | h
    · exact .inr (.inl h)
    · exact .inl (List.mem_singleton.mp h)
theorem len_putSt (st : List StE) (e : StE) : (putSt st e).length ≤ st.length + 1 := by
  unfold putSt
  split
  · simp
  · simp
theorem len_putTl (tl : List (Str × Str)) (e : Str × Str) : (putTl tl e).length ≤ tl.length + 1 := by
  unfold putTl
  split
  · simp
  · simp
theorem addN_nd {l : List Str} {x : Str} (h : l.Nodup) : (addN l x).Nodup := by
  unfold addN
  split
  · exact h
  · rename_i n
    rw [List.nodup_append]
    refine ⟨h, by simp, ?_⟩
    intro a ha b hb z
    rw [List.mem_singleton] at hb
    subst hb
    subst z
    exact n ha
theorem addN_sub {l ns : List Str} {x : Str} (h : ∀ y ∈ l, y ∈ ns) (hx : x ∈ ns) : ∀ y ∈ addN l x, y ∈ ns := by
  unfold addN
  split
  · exact h
  · intro y hy
    rcases List.mem_append.mp hy with hy | hy
    · exact h y hy
    · rw [List.mem_singleton.mp hy]
      exact hx
theorem foldN_sub {ns : List Str} : ∀ (xs l : List Str), l.Nodup → (∀ y ∈ l, y ∈ ns) → (∀ y ∈ xs, y ∈ ns) → (xs.foldl addN l).Nodup ∧ ∀ y ∈ xs.foldl addN l, y ∈ ns
  | [], l, h1, h2, _ => ⟨h1, h2⟩
  | x :: xs, l, h1, h2, h3 => by
    rw [List.foldl_cons]
    exact foldN_sub xs _ (addN_nd h1) (addN_sub h2 (h3 x List.mem_cons_self)) (fun y hy => h3 y (List.mem_cons_of_mem _ hy))
theorem foldS_sub {ns : List Str} : ∀ (st : List StE) (l : List Str), l.Nodup → (∀ y ∈ l, y ∈ ns) → (∀ e ∈ st, e.1.1 ∈ ns ∧ e.2.2 ∈ ns) → (st.foldl addS l).Nodup ∧ ∀ y ∈ st.foldl addS l, y ∈ ns
  | [], l, h1, h2, _ => ⟨h1, h2⟩
  | x :: xs, l, h1, h2, h3 => by
    rw [List.foldl_cons]
    have hx := h3 x List.mem_cons_self
    exact foldS_sub xs _ (addN_nd (addN_nd h1)) (addN_sub (addN_sub h2 hx.1) hx.2) (fun y hy => h3 y (List.mem_cons_of_mem _ hy))
theorem nd_len {α : Type} [DecidableEq α] : ∀ {l ns : List α}, l.Nodup → (∀ y ∈ l, y ∈ ns) → l.length ≤ ns.length
  | [], ns, _, _ => by simp
  | x :: l, ns, h, s => by
    rw [List.nodup_cons] at h
    have hx := s x List.mem_cons_self
    have := nd_len (ns := ns.erase x) h.2 fun y hy => (List.mem_erase_of_ne (fun z => h.1 (by rw [← z]; exact hy))).mpr (s y (List.mem_cons_of_mem _ hy))
    rw [List.length_erase_of_mem hx] at this
    have : 0 < ns.length := List.length_pos_of_mem hx
    rw [List.length_cons]
    omega
theorem names_le {ns : List Str} {s : Str} {st : List StE} {tl : List (Str × Str)} (hs : s ∈ ns) (h1 : ∀ e ∈ st, e.1.1 ∈ ns ∧ e.2.2 ∈ ns) (h2 : ∀ e ∈ tl, e.1 ∈ ns) :
    (namesOf s st tl).length ≤ ns.length := by
  unfold namesOf
  have a := foldS_sub (ns := ns) st [s] (by simp) (fun y hy => by rw [List.mem_singleton.mp hy]; exact hs) h1
  have b := foldN_sub (ns := ns) (tl.map (·.1)) _ a.1 a.2 (fun y hy => by
    obtain ⟨e, he, rfl⟩ := List.mem_map.mp hy
    exact h2 e he)
  exact nd_len b.1 b.2
theorem letters_le {ls : List Str} {st : List StE} (h : ∀ e ∈ st, e.1.2 ∈ ls) : (lettersOf st).length ≤ ls.length := by
  unfold lettersOf
  have b := foldN_sub (ns := ls) (st.map fun e => e.1.2) [] (by simp) (fun y hy => by cases hy) (fun y hy => by
    obtain ⟨e, he, rfl⟩ := List.mem_map.mp hy
    exact h e he)
  exact nd_len b.1 b.2
/-- what the draw of parts keeps beside: all names among ns, all letters among ls -/
structure Among (ns ls : List Str) (st : List StE) (tl : List (Str × Str)) : Prop where
  st : ∀ e ∈ st, e.1.1 ∈ ns ∧ e.1.2 ∈ ls ∧ isAns e.2.1 = true ∧ e.2.2 ∈ ns
  tl : ∀ e ∈ tl, e.1 ∈ ns ∧ isAns e.2 = true
theorem Among.put {ns ls : List Str} {st : List StE} {tl : List (Str × Str)} (h : Among ns ls st tl) {e : StE} (he : e.1.1 ∈ ns ∧ e.1.2 ∈ ls ∧ isAns e.2.1 = true ∧ e.2.2 ∈ ns) : Among ns ls (putSt st e) tl :=
  ⟨fun x hx => by
    rcases mem_putSt hx with rfl | hx | ⟨y, hy, e1, e2⟩
    · exact he
    · exact h.st x hx
    · have := h.st y hy
      rw [e1] at this
      rw [e2]
      exact ⟨this.1, this.2.1, he.2.2.1, he.2.2.2⟩, h.tl⟩
theorem Among.putT {ns ls : List Str} {st : List StE} {tl : List (Str × Str)} (h : Among ns ls st tl) {e : Str × Str} (he : e.1 ∈ ns ∧ isAns e.2 = true) : Among ns ls st (putTl tl e) :=
  ⟨h.st, fun x hx => by
    rcases mem_putTl hx with rfl | hx | ⟨y, hy, e1, e2⟩
    · exact he
    · exact h.tl x hx
    · have := h.tl y hy
      rw [e1] at this
      rw [e2]
      exact ⟨this.1, he.2⟩⟩
theorem Among.ok {ns ls : List Str} {s : Str} {st : List StE} {tl : List (Str × Str)} (h : Among ns ls st tl) (hs : s ∈ ns) (hn : ∀ x ∈ ns, isName x = true) (hl : ∀ x ∈ ls, isLet x = true)
    (ln : ns.length ≤ 6) (ll : ls.length ≤ 4) (h1 : st.length ≤ 1000) (h2 : tl.length ≤ 1000) : OkParts s st tl where
  os := hn s hs
  ost := fun e he => let ⟨a, b, c, d⟩ := h.st e he; ⟨hn _ a, hl _ b, c, hn _ d⟩
  lst := h1
  otl := fun e he => let ⟨a, b⟩ := h.tl e he; ⟨hn _ a, b⟩
  ltl := h2
  n6 := Nat.le_trans (names_le hs (fun e he => let ⟨a, _, _, d⟩ := h.st e he; ⟨a, d⟩) (fun e he => (h.tl e he).1)) ln
  l4 := Nat.le_trans (letters_le fun e he => (h.st e he).2.1) ll
end KC
namespace KC
open PySem L2 PyProof.Rows
theorem PenAt.mono {H : Hp} {p c : Addr} {ns : List Int} {n m : Nat} (h : PenAt H p c ns n) (le : n ≤ m) : PenAt H p c ns m := by
  obtain ⟨t, g, a, b, e, f, z⟩ := h
  exact ⟨t, g, a, b, e, f, by omega⟩
theorem PenAt.same {H H' : Hp} {p c : Addr} {ns : List Int} {n : Nat} (h : PenAt H p c ns n) (s : Same H H') : PenAt H' p c ns n := by
  obtain ⟨t, g, a, b, e⟩ := h
  exact ⟨t, g, s _ _ a, s _ _ b, e⟩
theorem But.of_same {p : Addr} {H H' : Hp} (s : Same H H') : But p H H' := fun b _ o e => s b o e
theorem But.tr {p : Addr} {H H1 H2 : Hp} (a : But p H H1) (b : But p H1 H2) : But p H H2 := fun x hx o e => b x hx o (a x hx o e)
theorem StAt.but {K : PySem.W.Frag} {H H' : Hp} {p d : Addr} {st : List StE} {xs : List V} (h : StAt K H d st) (hp : H p = some (.lst xs)) (m : But p H H') : StAt K H' d st := by
  obtain ⟨kvs, a, b, c⟩ := h.ex
  refine ⟨kvs, m _ (fun z => by rw [z, hp] at a; cases a) _ a, ⟨b.1, fun i e he => ?_⟩, c⟩
  obtain ⟨q, h1, h2⟩ := b.2 i e he
  refine ⟨q, h1, ?_⟩
  rcases h2 with (h2 | ⟨o, h2⟩) | h2
  · exact .inl (.inl (m _ (fun z => by rw [z, hp] at h2; cases h2) _ h2))
  · exact .inl (.inr ⟨o, m _ (fun z => by rw [z, hp] at h2; cases h2) _ h2⟩)
  · exact .inr h2
theorem sqT_upd {K : PySem.W.Frag} {H : Hp} {d a : Addr} {xs : List V} {u u' : HO} (hd : H d = some u) (h : SqT K H a xs) (n1 : u ≠ .tup xs) (n2 : ∀ o, u ≠ .frz o (.tup xs)) : SqT K (upd H d u') a xs := by
  rcases h with (h | ⟨o, h⟩) | h
  · exact .inl (.inl (upd_oth (fun z => n1 (by rw [z, hd] at h; exact Option.some.inj h)) h))
  · exact .inl (.inr ⟨o, upd_oth (fun z => n2 o (by rw [z, hd] at h; exact Option.some.inj h)) h⟩)
  · exact .inr h
theorem StK.updT {K : PySem.W.Frag} {H : Hp} {d : Addr} {kvs : List (List Key × V)} {st : List StE} {kv2 : List (List Key × V)} {u : HO} (hd : H d = some (.dT kv2)) (h : StK K H kvs st) : StK K (upd H d u) kvs st :=
  ⟨h.1, fun i e he => let ⟨q, a, b⟩ := h.2 i e he; ⟨q, a, sqT_upd hd b (fun z => by cases z) (fun _ z => by cases z)⟩⟩
theorem StAt.updK {K : PySem.W.Frag} {H : Hp} {d t : Addr} {st : List StE} {kv2 : List (Key × V)} {u : HO} (ht : H t = some (.dK kv2)) (h : StAt K H d st) : StAt K (upd H t u) d st := by
  obtain ⟨kvs, a, b, c⟩ := h.ex
  exact ⟨kvs, upd_oth (fun z => by rw [z, ht] at a; cases a) a, ⟨b.1, fun i e he => let ⟨q, a, b⟩ := b.2 i e he; ⟨q, a, sqT_upd ht b (fun z => by cases z) (fun _ z => by cases z)⟩⟩, c⟩
theorem PenAt.upd {H : Hp} {p c d : Addr} {ns : List Int} {n : Nat} {o u : HO} (h : PenAt H p c ns n) (hd : H d = some o) (no : ∀ xs, o ≠ .lst xs) : PenAt (upd H d u) p c ns n := by
  obtain ⟨t, g, a, b, e⟩ := h
  exact ⟨t, g, upd_oth (fun z => by rw [z, hd] at a; exact no _ (Option.some.inj a)) a, upd_oth (fun z => by rw [z, hd] at b; exact no _ (Option.some.inj b)) b, e⟩
theorem PenAt.lst {H : Hp} {p c : Addr} {ns : List Int} {n : Nat} (h : PenAt H p c ns n) : ∃ xs, H p = some (.lst xs) := by
  obtain ⟨t, g, a, _⟩ := h
  exact ⟨_, a⟩
theorem PenAt.fresh {H : Hp} {p c b : Addr} {ns : List Int} {n : Nat} (h : PenAt H p c ns n) (hb : H b = none) : b ≠ p ∧ b ≠ c := by
  obtain ⟨t, g, a1, a2, _⟩ := h
  exact ⟨fun z => (by rw [z, a1] at hb; cases hb), fun z => (by rw [z, a2] at hb; cases hb)⟩
theorem PenAt.updF {H : Hp} {p c b : Addr} {ns : List Int} {n : Nat} {o : HO} (h : PenAt H p c ns n) (g : b ≠ p ∧ b ≠ c) : PenAt (L2.upd H b o) p c ns n := by
  obtain ⟨t, g', a, e, f⟩ := h
  exact ⟨t, g', upd_oth (Ne.symm g.1) a, upd_oth (Ne.symm g.2) e, f⟩
def plD (s : Str) (d t : Addr) : List (Key × V) := [(.inr "start", .str s), (.inr "steps", .ref d), (.inr "tails", .ref t)]
theorem pl_merge (s : Str) (d t : Addr) : mergeK [] (plD s d t) = plD s d t := by rfl
theorem pl_start (s : Str) (d t : Addr) : valV (plD s d t) (.inr "start") = some (.str s) := by rfl
theorem pl_steps (s : Str) (d t : Addr) : valV (plD s d t) (.inr "steps") = some (.ref d) := by rfl
theorem pl_tails (s : Str) (d t : Addr) : valV (plD s d t) (.inr "tails") = some (.ref t) := by rfl
/-- the parts of a converter, as the law keeps them -/
def PlAt (K : PySem.W.Frag) (H : Hp) (p : Addr) (s : Str) (st : List StE) (tl : List (Str × Str)) : Prop :=
  ∃ d t, H p = some (.dK (plD s d t)) ∧ StAt K H d st ∧ H t = some (.dK (tl.map tlKv)) ∧ (tl.map (·.1)).Nodup
theorem PlAt.same {K : PySem.W.Frag} {H H' : Hp} {p : Addr} {s : Str} {st : List StE} {tl : List (Str × Str)} (h : PlAt K H p s st tl) (m : Same H H') : PlAt K H' p s st tl := by
  obtain ⟨d, t, h1, h2, h3, h4⟩ := h
  exact ⟨d, t, m _ _ h1, h2.same m, m _ _ h3, h4⟩
theorem PlAt.but {K : PySem.W.Frag} {H H' : Hp} {p q : Addr} {s : Str} {st : List StE} {tl : List (Str × Str)} (h : PlAt K H q s st tl) (hp : ∃ xs, H p = some (.lst xs)) (m : But p H H') : PlAt K H' q s st tl := by
  obtain ⟨xs, hp⟩ := hp
  obtain ⟨d, t, h1, h2, h3, h4⟩ := h
  exact ⟨d, t, m _ (fun z => by rw [z, hp] at h1; cases h1) _ h1, h2.but hp m, m _ (fun z => by rw [z, hp] at h3; cases h3) _ h3, h4⟩
theorem cut_take {xs : List V} {m : Int} (h0 : 0 ≤ m) (h1 : m ≤ xs.length) : cutV xs none (some m) = xs.take m.toNat := by
  obtain ⟨n, rfl⟩ : ∃ n : Nat, m = (n : Int) := ⟨m.toNat, by omega⟩
  have q : cutV xs none (some (n : Int)) = (xs.drop (HT.sIx xs.length 0 none)).take (HT.sIx xs.length xs.length (some (n : Int)) - HT.sIx xs.length 0 none) := rfl
  rw [q, HT.sIx_nat, HT.sIx_none, List.drop_zero, Int.toNat_natCast, Nat.sub_zero, Nat.min_eq_left (by omega)]
def allStates : List Str := ["s", "t", "u", "abc", "v"]
def allLetters : List Str := ["a", "b", "n"]
theorem allStates_ok : ∀ x ∈ allStates, isName x = true := by decide +kernel
theorem allLetters_ok : ∀ x ∈ allLetters, isLet x = true := by decide +kernel
theorem ans_ok : ∀ x ∈ (["", "x", "a", "xy", "abc", "wxyz", "z", "yy", "qqq"] : List Str), isAns x = true := by decide +kernel
/-- how things stand in the draw of parts -/
structure Lp (K : PySem.W.Frag) (p c A1 A2 D Tl : Addr) (ns : List Int) (ss ls : List Str) (H G : Hp) (n : Nat) (st : List StE) (tl : List (Str × Str)) : Prop where
  gp : PenAt G p c ns n
  gb : But p H G
  ga1 : G A1 = some (.lst (ss.map V.str))
  ga2 : G A2 = some (.lst (ls.map V.str))
  gst : StAt K G D st
  gtl : G Tl = some (.dK (tl.map tlKv))
  gnd : (tl.map (·.1)).Nodup
  gam : Among ss ls st tl
theorem Lp.same {K : PySem.W.Frag} {p c A1 A2 D Tl : Addr} {ns : List Int} {ss ls : List Str} {H G G' : Hp} {n : Nat} {st : List StE} {tl : List (Str × Str)} (h : Lp K p c A1 A2 D Tl ns ss ls H G n st tl) (s : Same G G') :
    Lp K p c A1 A2 D Tl ns ss ls H G' n st tl :=
  ⟨h.gp.same s, But.tr h.gb (But.of_same s), s _ _ h.ga1, s _ _ h.ga2, h.gst.same s, s _ _ h.gtl, h.gnd, h.gam⟩
theorem Lp.draw {K : PySem.W.Frag} {p c A1 A2 D Tl : Addr} {ns : List Int} {ss ls : List Str} {H G G' : Hp} {n m : Nat} {st : List StE} {tl : List (Str × Str)} (h : Lp K p c A1 A2 D Tl ns ss ls H G n st tl) (n1 : A1 ≠ p) (n2 : A2 ≠ p)
    (gp : PenAt G' p c ns m) (b : But p G G') : Lp K p c A1 A2 D Tl ns ss ls H G' m st tl := by
  obtain ⟨t, g, a, _⟩ := id h.gp
  exact ⟨gp, But.tr h.gb b, b _ n1 _ h.ga1, b _ n2 _ h.ga2, h.gst.but a b, b _ (fun z => by have := h.gtl; rw [z, a] at this; cases this) _ h.gtl, h.gnd, h.gam⟩
theorem Lp.mono {K : PySem.W.Frag} {p c A1 A2 D Tl : Addr} {ns : List Int} {ss ls : List Str} {H G : Hp} {n m : Nat} {st : List StE} {tl : List (Str × Str)} (h : Lp K p c A1 A2 D Tl ns ss ls H G n st tl) (le : n ≤ m) :
    Lp K p c A1 A2 D Tl ns ss ls H G m st tl := ⟨h.gp.mono le, h.gb, h.ga1, h.ga2, h.gst, h.gtl, h.gnd, h.gam⟩
theorem Lp.putS {K : PySem.W.Frag} {p c A1 A2 D Tl q : Addr} {ns : List Int} {ss ls : List Str} {H G : Hp} {n : Nat} {st : List StE} {tl : List (Str × Str)} {kvs : List (List Key × V)} (h : Lp K p c A1 A2 D Tl ns ss ls H G n st tl)
    (hD : H D = none) (e : StE) (he : e.1.1 ∈ ss ∧ e.1.2 ∈ ls ∧ isAns e.2.1 = true ∧ e.2.2 ∈ ss) (gD : G D = some (.dT kvs)) (sk : StK K G kvs st) (nd : (kvs.map (·.1)).Nodup) (hq : SqT K G q [.str e.2.1, .str e.2.2]) :
    Lp K p c A1 A2 D Tl ns ss ls H (upd G D (.dT (putK kvs (stK e) (.ref q)))) n (putSt st e) tl where
  gp := h.gp.upd gD (fun _ z => by cases z)
  gb := fun b hb o eb => upd_oth (fun z => by rw [z, hD] at eb; cases eb) (h.gb b hb o eb)
  ga1 := upd_oth (fun z => by have := h.ga1; rw [z, gD] at this; cases this) h.ga1
  ga2 := upd_oth (fun z => by have := h.ga2; rw [z, gD] at this; cases this) h.ga2
  gst := ⟨_, upd_same, StK.updT gD (sk.put hq), nd_put nd⟩
  gtl := upd_oth (fun z => by have := h.gtl; rw [z, gD] at this; cases this) h.gtl
  gnd := h.gnd
  gam := h.gam.put he
theorem Lp.putT {K : PySem.W.Frag} {p c A1 A2 D Tl : Addr} {ns : List Int} {ss ls : List Str} {H G : Hp} {n : Nat} {st : List StE} {tl : List (Str × Str)} (h : Lp K p c A1 A2 D Tl ns ss ls H G n st tl)
    (hT : H Tl = none) (e : Str × Str) (he : e.1 ∈ ss ∧ isAns e.2 = true) :
    Lp K p c A1 A2 D Tl ns ss ls H (upd G Tl (.dK (putK (tl.map tlKv) (.inr e.1) (.str e.2)))) n st (putTl tl e) where
  gp := h.gp.upd h.gtl (fun _ z => by cases z)
  gb := fun b hb o eb => upd_oth (fun z => by rw [z, hT] at eb; cases eb) (h.gb b hb o eb)
  ga1 := upd_oth (fun z => by have := h.ga1; rw [z, h.gtl] at this; cases this) h.ga1
  ga2 := upd_oth (fun z => by have := h.ga2; rw [z, h.gtl] at this; cases this) h.ga2
  gst := h.gst.updK h.gtl
  gtl := by rw [tlKv_put]; exact upd_same
  gnd := nd_putTl h.gnd
  gam := h.gam.putT he
section
variable {P : Program} {w : World} {K : PySem.W.Frag} {mg : Str → Option Value} {base : Heap}
def spPlan (K : PySem.W.Frag) : Sp := fun vs H Q _ => ∃ (p c : Addr) (ns : List Int) (n : Nat), vs = [.ref p, .int 4] ∧ PenAt H p c ns n ∧ ns.length ≤ 63 ∧ n < 900000 ∧
  ∀ (q : Addr) (s : Str) (st : List StE) (tl : List (Str × Str)) (H' : Hp), OkParts s st tl → PlAt K H' q s st tl → PenAt H' p c ns (n + 100) → But p H H' → st.length ≤ 30 → Q (.ref q) H'
theorem kp_plan (T : Txt K mg) : Kf P w K mg base 3 "_law_plan" ["_law_pen_here", "_law_most"] (spPlan K) := by
  refine T.d_lplan.okF sc_lplan (fun vs H Q E h => ?_) (fun f cdv A outer s H vs Q E hA hr h => ?_)
  · obtain ⟨p, c, ns, n, rfl, _⟩ := h
    rfl
  · obtain ⟨p, c, ns, n, rfl, hp, hlen, hn, k⟩ := h
    refine ⟨_, (pss_cons (ps_par (i := 2) (j := 3) (by rfl) sc_lplan.nd rfl rfl (by decide) rfl rfl (pa_cons (pe_slice (sl_list : SlR _ (rSlL K)) (pe_lst (pa_cons (pe_str) (pa_cons (pe_str) (pa_cons (pe_str) (pa_cons (pe_str) (pa_cons (pe_str) pa_nil)))))) po_none (po_some (pe_op op_add (pe_int) (pe_kf (kp_draw T) hA hr (by rfl) (pa_cons (pv 0) (pa_cons (pv 1) pa_nil)))))) (pa_cons (pe_slice (sl_list : SlR _ (rSlL K)) (pe_lst (pa_cons (pe_str) (pa_cons (pe_str) (pa_cons (pe_str) pa_nil)))) po_none (po_some (pe_op op_add (pe_int) (pe_kf (kp_draw T) hA hr (by rfl) (pa_cons (pv 0) (pa_cons (pe_int) pa_nil)))))) pa_nil)) (by rfl))
 (pss_cons (ps_par (i := 4) (j := 5) (by rfl) sc_lplan.nd rfl rfl (by decide) rfl rfl (pa_cons pe_dnewT (pa_cons pe_dnewK pa_nil)) (by rfl))
 (pss_cons (ps_for PassesOwn.never rfl (pi_list (pv 2)) (pg_name (i := 6) sc_lplan.nd rfl (Or.inl rfl))
 (pss_cons (ps_for PassesOwn.never rfl (pi_list (pv 3)) (pg_name (i := 7) sc_lplan.nd rfl (Or.inl rfl))
 (pss_one (ps_if (pt_cmpR op_gt (pe_kf (kp_draw T) hA hr (by rfl) (pa_cons (pv 0) (pa_cons (pe_int) pa_nil))) (pe_int) (nomark _))
 (pss_one (ps_asg (pe_tup (pa_cons (pe_kf (kp_pick T) hA hr (by rfl) (pa_cons (pv 0) (pa_cons (pe_lst (pa_cons (pe_str) (pa_cons (pe_str) (pa_cons (pe_str) (pa_cons (pe_str) (pa_cons (pe_str) (pa_cons (pe_str) (pa_cons (pe_str) pa_nil)))))))) pa_nil))) (pa_cons (pe_kf (kp_pick T) hA hr (by rfl) (pa_cons (pv 0) (pa_cons (pv 2) pa_nil))) pa_nil))) (pg_sub (pv 4) (pe_tup (pa_cons (pv 6) (pa_cons (pv 7) pa_nil))) (set_dict (hu_of hr))))) pss_nil)))
 (pss_one (ps_if (pt_cmpR op_lt (pe_kf (kp_draw T) hA hr (by rfl) (pa_cons (pv 0) (pa_cons (pe_int) pa_nil))) (pe_int) (nomark _))
 (pss_one (ps_asg (pe_kf (kp_pick T) hA hr (by rfl) (pa_cons (pv 0) (pa_cons (pe_lst (pa_cons (pe_str) (pa_cons (pe_str) (pa_cons (pe_str) (pa_cons (pe_str) (pa_cons (pe_str) pa_nil)))))) pa_nil))) (pg_sub (pv 5) (pv 6) (set_dict (hu_of hr))))) pss_nil))))
 (pss_one (ps_ret (pe_disp (pps_cons (pe_str) (pe_kf (kp_pick T) hA hr (by rfl) (pa_cons (pv 0) (pa_cons (pe_slice (sl_list : SlR _ (rSlL K)) (pv 2) po_none (po_some (pe_int))) pa_nil))) (pps_cons (pe_str) (pv 4) (pps_cons (pe_str) (pv 5) pps_nil))) (by rfl) (by rfl) (fun z => by cases z) (by decide))))))), ?_⟩
    have np : ∀ {G : Hp} {a : Addr}, Same H G → G a = none → a ≠ p := fun s h => ((hp.same s).fresh h).1
    refine ⟨(by show 5 ≤ sizeLine; decide), fun L1 hL1 => ?_⟩
    have s1 : Same H (upd H L1 (.lst [.str "s", .str "t", .str "u", .str "abc", .str "v"])) := Same.new hL1
    refine ⟨_, rfl, _, rfl, p, c, _, ns, _, rfl, hp.same s1, hlen, by decide, by decide, by omega, fun m H2 m0 m1 hp2 b2 => ?_⟩
    have g1 := b2 L1 (np (fun _ _ h => h) hL1) _ (upd_same (o := .lst [.str "s", .str "t", .str "u", .str "abc", .str "v"]) (H := H) (a := L1))
    refine ⟨_, _, rfl, rfl, _, rfl, L1, _, rfl, SqL.of g1, fun A1 hA1 => ?_⟩
    have e1 : cutV ([.str "s", .str "t", .str "u", .str "abc", .str "v"] : List V) none (some (1 + m)) = (allStates.take (1 + m).toNat).map V.str := by
      rw [cut_take (by omega) (by show 1 + m ≤ 5; omega), List.map_take]
      rfl
    rw [e1]
    have so1 : (allStates.take (1 + m).toNat).length ≤ 4 := by
      rw [List.length_take]
      show min _ 5 ≤ 4
      omega
    have so2 : 0 < (allStates.take (1 + m).toNat).length := by
      rw [List.length_take]
      show 0 < min _ 5
      omega
    have so3 : ∀ x ∈ allStates.take (1 + m).toNat, isName x = true := fun x hx => allStates_ok x (List.mem_of_mem_take hx)
    generalize allStates.take (1 + m).toNat = ss at so1 so2 so3
    have b02 : But p H H2 := But.tr (But.of_same s1) b2
    have s3 : Same H2 (upd H2 A1 (.lst (ss.map V.str))) := Same.new hA1
    have gA1 : upd H2 A1 (.lst (ss.map V.str)) A1 = some (.lst (ss.map V.str)) := upd_same
    have nA1 : A1 ≠ p := (hp2.fresh hA1).1
    have hp3 := hp2.same s3
    generalize upd H2 A1 (.lst (ss.map V.str)) = H3 at s3 gA1 hp3
    refine ⟨(by show 3 ≤ sizeLine; decide), fun L2 hL2 => ?_⟩
    have s4 : Same H3 (upd H3 L2 (.lst [.str "a", .str "b", .str "n"])) := Same.new hL2
    refine ⟨_, rfl, p, c, _, ns, _, rfl, hp3.same s4, hlen, by decide, by decide, by omega, fun l H4 l0 l1 hp4 b4 => ?_⟩
    have g2 := b4 L2 (hp3.fresh hL2).1 _ (upd_same (o := .lst [.str "a", .str "b", .str "n"]) (H := H3) (a := L2))
    refine ⟨_, _, rfl, rfl, _, rfl, L2, _, rfl, SqL.of g2, fun A2 hA2 => ?_⟩
    have e2 : cutV ([.str "a", .str "b", .str "n"] : List V) none (some (1 + l)) = (allLetters.take (1 + l).toNat).map V.str := by
      rw [cut_take (by omega) (by show 1 + l ≤ 3; omega), List.map_take]
      rfl
    rw [e2]
    have lo1 : (allLetters.take (1 + l).toNat).length ≤ 3 := by
      rw [List.length_take]
      show min _ 3 ≤ 3
      omega
    have lo3 : ∀ x ∈ allLetters.take (1 + l).toNat, isLet x = true := fun x hx => allLetters_ok x (List.mem_of_mem_take hx)
    generalize allLetters.take (1 + l).toNat = ls at lo1 lo3
    have gA1' : (upd H4 A2 (.lst (ls.map V.str))) A1 = some (.lst (ss.map V.str)) := upd_new hA2 (b4 A1 nA1 _ (s4 _ _ gA1))
    have gA2 : (upd H4 A2 (.lst (ls.map V.str))) A2 = some (.lst (ls.map V.str)) := upd_same
    have nA2 : A2 ≠ p := (hp4.fresh hA2).1
    have hp5 := hp4.same (Same.new (u := .lst (ls.map V.str)) hA2)
    have b05 : But p H (upd H4 A2 (.lst (ls.map V.str))) := But.tr b02 (But.tr (But.of_same (s3.trans s4)) (But.tr b4 (But.of_same (Same.new hA2))))
    generalize upd H4 A2 (.lst (ls.map V.str)) = H5 at gA1' gA2 hp5 b05
    refine ⟨_, _, rfl, ?_⟩
    refine fun D hD Tl hTl => ⟨_, _, rfl, ?_⟩
    have s6 := (Same.new (u := .dT []) hD).trans (Same.new (u := .dK []) hTl)
    have gD : upd (upd H5 D (.dT [])) Tl (.dK []) D = some (.dT []) := upd_new hTl upd_same
    have gT : upd (upd H5 D (.dT [])) Tl (.dK []) Tl = some (.dK []) := upd_same
    have hT5 : H5 Tl = none := (Same.new (u := .dT []) hD).free hTl
    generalize upd (upd H5 D (.dT [])) Tl (.dK []) = H6 at s6 gD gT
    refine ⟨_, rfl, A1, rfl, ⟨_, SqL.of (s6 _ _ gA1')⟩, ?_⟩
    refine for_it (walk_list (K := K) (a := A1) (xs := ss.map V.str)) (fun i σ H' => ∃ (v6 v7 : Option V) (st : List StE) (tl : List (Str × Str)), σ = [some (.ref p), some (.int 4), some (.ref A1), some (.ref A2), some (.ref D), some (.ref Tl), v6, v7] ∧
      Lp K p c A1 A2 D Tl ns ss ls H5 H' (n + 2 + 14 * i) st tl ∧ st.length ≤ 4 * i ∧ tl.length ≤ i)
      ⟨_, _, [], [], rfl, ⟨(hp5.same s6).mono (by omega), But.of_same s6, s6 _ _ gA1', s6 _ _ gA2, ⟨[], gD, ⟨rfl, fun i e h => by cases h⟩, by simp⟩, gT, by simp, ⟨fun e he => (by cases he), fun e he => (by cases he)⟩⟩, by decide, by decide⟩
      (fun i σ H' _ h => by obtain ⟨_, _, _, _, _, h, _⟩ := h; exact SqL.of h.ga1) ?_ ?_
    · rintro i x σ G G' hi ⟨v6, v7, st, tl, rfl, lp, gl, gl2⟩ ⟨rfl, hx⟩
      rw [List.length_map] at hi
      rw [List.getElem?_map, List.getElem?_eq_getElem hi] at hx
      obtain rfl : V.str ss[i] = x := Option.some.inj hx
      have hmem : ss[i] ∈ ss := List.getElem_mem hi
      have hi6 : i < 4 := by omega
      generalize ss[i] = sn at hmem
      refine ⟨_, rfl, A2, rfl, ⟨_, SqL.of lp.ga2⟩, ?_⟩
      refine for_it (walk_list (K := K) (a := A2) (xs := ls.map V.str)) (fun j σ H' => ∃ (v7 : Option V) (st : List StE), σ = [some (.ref p), some (.int 4), some (.ref A1), some (.ref A2), some (.ref D), some (.ref Tl), some (.str sn), v7] ∧
        Lp K p c A1 A2 D Tl ns ss ls H5 H' (n + 2 + 14 * i + 3 * j) st tl ∧ st.length ≤ 4 * i + j)
        ⟨_, st, rfl, lp, gl⟩ (fun i σ H' _ h => by obtain ⟨_, _, _, h, _⟩ := h; exact SqL.of h.ga2) ?_ ?_
      · rintro j x σ G1 G2 hj ⟨v7, st1, rfl, lp1, gl1⟩ ⟨rfl, hx⟩
        rw [List.length_map] at hj
        rw [List.getElem?_map, List.getElem?_eq_getElem hj] at hx
        obtain rfl : V.str ls[j] = x := Option.some.inj hx
        have hmemL : ls[j] ∈ ls := List.getElem_mem hj
        have hj4 : j < 3 := by omega
        generalize ls[j] = ln at hmemL
        refine ⟨_, rfl, p, c, 5, ns, _, rfl, lp1.gp, hlen, by decide, by decide, by omega, fun r H6 r0 r1 gp6 b6 => ?_⟩
        have lp2 := lp1.draw nA1 nA2 gp6 b6
        refine ⟨_, _, rfl, rfl, _, rfl, ?_⟩
        refine ite2 (fun c1 => ?_) (fun c1 => ?_)
        · refine ⟨_, rfl, (by show 7 ≤ sizeLine; decide), fun L hL => ?_⟩
          have np7 : L ≠ p := (gp6.fresh hL).1
          have lp3 := lp2.same (Same.new (u := .lst [.str "", .str "x", .str "a", .str "xy", .str "", .str "abc", .str "wxyz"]) hL)
          refine ⟨p, c, L, _, ns, _, rfl, lp3.gp, hlen, upd_same, np7, (by show 0 < 7; decide), (by show 7 < 1000000; decide), by omega, fun v H8 hv gp8 b8 => ?_⟩
          have lp4 := lp3.draw nA1 nA2 gp8 b8
          obtain ⟨an, rfl, han⟩ : ∃ an : Str, v = .str an ∧ isAns an = true := by
            simp only [List.mem_cons, List.not_mem_nil, or_false] at hv
            rcases hv with rfl | rfl | rfl | rfl | rfl | rfl | rfl <;> exact ⟨_, rfl, ans_ok _ (by decide)⟩
          refine ⟨_, rfl, _, rfl, p, c, A1, _, ns, _, rfl, lp4.gp, hlen, lp4.ga1, nA1, by rw [List.length_map]; exact so2, by rw [List.length_map]; exact Nat.lt_of_le_of_lt so1 (by decide), by omega, fun v H9 hv2 gp9 b9 => ?_⟩
          have lp5 := lp4.draw nA1 nA2 gp9 b9
          obtain ⟨to, hto, rfl⟩ := List.mem_map.mp hv2
          refine ⟨(by show 2 ≤ sizeLine; decide), fun q hq => ?_⟩
          have lp6 := lp5.same (Same.new (u := .tup [.str an, .str to]) hq)
          have gq : upd H9 q (.tup [.str an, .str to]) q = some (.tup [.str an, .str to]) := upd_same
          generalize upd H9 q (.tup [.str an, .str to]) = H10 at lp6 gq
          refine ⟨_, rfl, _, rfl, _, rfl, (by show 2 ≤ sizeLine; decide), fun kt hkt => ?_⟩
          have s11 := Same.new (u := .tup [.str sn, .str ln]) hkt
          have lp7 := lp6.same s11
          have gq' := s11 _ _ gq
          have gk : upd H10 kt (.tup [.str sn, .str ln]) kt = some (.tup [.str sn, .str ln]) := upd_same
          generalize upd H10 kt (.tup [.str sn, .str ln]) = H11 at lp7 gq' gk
          obtain ⟨kvs, gD7, sk, nd7⟩ := lp7.gst.ex
          have lp8 := lp7.putS hD ((sn, ln), (an, to)) ⟨hmem, hmemL, han, hto⟩ gD7 sk nd7 (SqT.of gq')
          have hk24 : kvs.length ≤ 28 := by
            rw [sk.len]
            omega
          refine ⟨D, _, rfl, .inr ⟨kvs, stK ((sn, ln), (an, to)), kt, gD7, rfl, gk, Nat.lt_of_le_of_lt hk24 (by decide), rfl⟩, ?_⟩
          exact ⟨_, _, rfl, lp8.mono (by omega), by have := len_putSt st1 ((sn, ln), (an, to)); omega⟩
        · exact ⟨_, st1, rfl, lp2.mono (by omega), by omega⟩
      · rintro σ G1 ⟨v7, st1, rfl, lp1, gl1⟩
        rw [List.length_map] at gl1
        refine ⟨_, rfl, p, c, 5, ns, _, rfl, lp1.gp, hlen, by decide, by decide, by rw [List.length_map]; omega, fun r H6 r0 r1 gp6 b6 => ?_⟩
        have lp2 := (lp1.draw nA1 nA2 gp6 b6).mono (m := n + 2 + 14 * i + 11) (by rw [List.length_map]; omega)
        refine ⟨_, _, rfl, rfl, _, rfl, ?_⟩
        refine ite2 (fun c1 => ?_) (fun c1 => ?_)
        · refine ⟨_, rfl, (by show 5 ≤ sizeLine; decide), fun L hL => ?_⟩
          have np7 : L ≠ p := (gp6.fresh hL).1
          have lp3 := lp2.same (Same.new (u := .lst [.str "", .str "", .str "z", .str "yy", .str "qqq"]) hL)
          refine ⟨p, c, L, _, ns, _, rfl, lp3.gp, hlen, upd_same, np7, (by show 0 < 5; decide), (by show 5 < 1000000; decide), by omega, fun v H8 hv gp8 b8 => ?_⟩
          have lp4 := lp3.draw nA1 nA2 gp8 b8
          obtain ⟨an, rfl, han⟩ : ∃ an : Str, v = .str an ∧ isAns an = true := by
            simp only [List.mem_cons, List.not_mem_nil, or_false] at hv
            rcases hv with rfl | rfl | rfl | rfl | rfl <;> exact ⟨_, rfl, ans_ok _ (by decide)⟩
          have lp8 := lp4.putT hT5 (sn, an) ⟨hmem, han⟩
          refine ⟨_, rfl, _, rfl, Tl, _, rfl, .inl ⟨_, .inr sn, lp4.gtl, rfl, ?_, rfl⟩, ?_⟩
          · rw [List.length_map]
            exact Nat.lt_of_le_of_lt (show tl.length ≤ 6 by omega) (by decide)
          · exact ⟨_, _, st1, _, rfl, lp8.mono (by omega), by omega, by have := len_putTl tl (sn, an); omega⟩
        · exact ⟨_, _, st1, tl, rfl, lp2.mono (by omega), by omega, by omega⟩
    · rintro σ G ⟨v6, v7, st, tl, rfl, lp, gl, gl2⟩
      rw [List.length_map] at lp gl gl2
      refine fun DD hDD => ?_
      have lp1 := lp.same (Same.new (u := .dK []) hDD)
      have gDD : upd G DD (.dK []) DD = some (.dK []) := upd_same
      have nDD : DD ≠ p := (lp.gp.fresh hDD).1
      generalize upd G DD (.dK []) = G1 at lp1 gDD
      refine ⟨_, rfl, _, rfl, _, rfl, A1, _, rfl, SqL.of lp1.ga1, fun A3 hA3 => ?_⟩
      have lp2 := lp1.same (Same.new (u := .lst (cutV (ss.map V.str) none (some 2))) hA3)
      have c2 : (cutV (ss.map V.str) none (some 2)).length ≤ 1000 ∧ 0 < (cutV (ss.map V.str) none (some 2)).length ∧ ∀ v ∈ cutV (ss.map V.str) none (some 2), v ∈ ss.map V.str := by
        have q : cutV (ss.map V.str) none (some 2) = ((ss.map V.str).drop (HT.sIx (ss.map V.str).length 0 none)).take (HT.sIx (ss.map V.str).length (ss.map V.str).length (some ((2 : Nat) : Int)) - HT.sIx (ss.map V.str).length 0 none) := rfl
        rw [q, HT.sIx_nat, HT.sIx_none, List.drop_zero, Nat.sub_zero]
        refine ⟨?_, ?_, fun v hv => List.mem_of_mem_take hv⟩
        · rw [List.length_take, List.length_map]
          omega
        · rw [List.length_take, List.length_map]
          omega
      have gDD2 : upd G1 A3 (.lst (cutV (ss.map V.str) none (some 2))) DD = some (.dK []) := upd_new hA3 gDD
      refine ⟨p, c, A3, _, ns, _, rfl, lp2.gp, hlen, upd_same, (lp1.gp.fresh hA3).1, c2.2.1, by omega, by omega, fun v6 H6 hv6 gp6 b6 => ?_⟩
      have lp3 := lp2.draw nA1 nA2 gp6 b6
      obtain ⟨sn, hsn, rfl⟩ := List.mem_map.mp (c2.2.2 _ hv6)
      have gDD3 := b6 DD nDD _ gDD2
      refine ⟨_, rfl, _, rfl, gDD3, plD sn D Tl, rfl, (by show 3 ≤ 15; decide), ?_⟩
      rw [pl_merge]
      have lp4 := lp3.mono (m := n + 100) (by omega)
      have nT : Tl ≠ DD := fun z => by
        have := lp.gtl
        rw [z, hDD] at this
        cases this
      refine k DD sn st tl _ (lp4.gam.ok hsn so3 lo3 (by omega) (by omega) (by omega) (by omega)) ⟨D, Tl, upd_same, lp4.gst.updK gDD3, upd_oth nT lp4.gtl, lp4.gnd⟩ (lp4.gp.upd gDD3 (fun _ z => by cases z)) (fun b hb o eb => ?_) (by omega)
      have eG := lp.gb b hb _ (b05 b hb _ eb)
      exact upd_oth (fun z => by rw [z, hDD] at eG; cases eG) (lp4.gb b hb _ (b05 b hb _ eb))
end
end KC
namespace KC
open PySem L2 PyProof.Rows
theorem Wk.snoc {st : List StE} {s e a to : Str} {c : Nat} {cs : List Nat} {ws : List (Str × Str)} (h : Wk st s cs ws e) (k : stepOf st e ⟨#[c]⟩ = some (a, to)) : Wk st s (cs ++ [c]) (ws ++ [(a, to)]) to := by
  induction h with
  | nil s => exact .cons k (.nil _)
  | cons h1 _ ih => exact .cons h1 (ih k)
/-- what a new converter needs -/
theorem make_ok {K : PySem.W.Frag} {mg : Str → Option Value} {G : Hp} {d t x dx : Addr} {s : Str} {st : List StE} {tl : List (Str × Str)} {Q : Hp → Prop} {E : XK} (hst : StAt K G d st) (ht : G t = some (.dK (tl.map tlKv))) (nd : (tl.map (·.1)).Nodup)
    (ok : OkParts s st tl) (hx : G x = none) (hdx : G dx = none) (ne : dx ≠ x) (k : ∀ H2, Same G H2 → CvAt K (gC mg) H2 x s st tl → Q H2) :
    spInit K (gC mg) [.ref x, .str s, .ref d, .ref t] (upd (upd G dx (.own x)) x (.ins (gC mg) dx [])) (fun v H2 => v = .non ∧ Q H2) E := by
  have s1 : Same G (upd (upd G dx (.own x)) x (.ins (gC mg) dx [])) := (Same.new hdx).trans (Same.new (by rw [upd_ne (Ne.symm ne)]; exact hx))
  refine ⟨x, dx, d, t, s, st, tl, rfl, upd_same, hst.same s1, s1 _ _ ht, nd, ok, fun H2 b cv => ⟨rfl, k H2 (fun a o e => b a (fun z => by rw [z, hx] at e; cases e) _ (s1 _ _ e)) cv⟩⟩
/-- the states of a way -/
def sts (s : Str) (ws : List (Str × Str)) : List Str := s :: ws.map (·.2)
theorem sts_snoc (s : Str) (ws : List (Str × Str)) (a to : Str) : sts s (ws ++ [(a, to)]) = sts s ws ++ [to] := by
  unfold sts
  rw [List.map_append]
  rfl
theorem Wk.last {st : List StE} {s e : Str} {cs : List Nat} {ws : List (Str × Str)} (h : Wk st s cs ws e) : (sts s ws).getLast? = some e := by
  induction h with
  | nil s => rfl
  | cons h1 _ ih =>
    rename_i s a to e c cs ws h2
    show (s :: sts to ws).getLast? = some e
    rw [List.getLast?_cons_of_ne_nil (by unfold sts; simp)]
    exact ih
theorem atI_lastS {xs : List Str} {v : Str} (h : xs.getLast? = some v) : atI (xs.map V.str) (-1) = some (.str v) := by
  obtain ⟨ys, rfl⟩ := List.getLast?_eq_some_iff.mp h
  rw [List.map_append]
  exact atI_last _ _
section
variable {P : Program} {w : World} {K : PySem.W.Frag} {mg : Str → Option Value} {base : Heap}
def spMade (K : PySem.W.Frag) (C : Addr) : Sp := fun vs H Q _ => ∃ (q : Addr) (s : Str) (st : List StE) (tl : List (Str × Str)), vs = [.ref q] ∧ PlAt K H q s st tl ∧ OkParts s st tl ∧ ∀ x H', Same H H' → CvAt K C H' x s st tl → Q (.ref x) H'
theorem kp_made (TM : TxM K mg) : Kf P w K mg base 8 "_law_made" ["_law_plan_here"] (spMade K (gC mg)) := by
  have TC := TM.C
  have T := TC.T
  refine T.d_lmade.okF sc_lmade (fun vs H Q E h => ?_) (fun f cdv A outer s H vs Q E hA hr h => ?_)
  · obtain ⟨q, s, st, tl, rfl, _⟩ := h
    rfl
  · obtain ⟨q, s, st, tl, rfl, ⟨d, t, hq, hst, ht, nd⟩, ok, k⟩ := h
    refine ⟨_, (pss_one (ps_ret (pe_kmkN (kp_init TM.C) hr rfl TM.C.mgC (pa_cons (pe_dget (hu_of hr) (pv 0) (pe_str) (fun _ _ => rfl)) (pa_cons (pe_dget (hu_of hr) (pv 0) (pe_str) (fun _ _ => rfl)) (pa_cons (pe_dget (hu_of hr) (pv 0) (pe_str) (fun _ _ => rfl)) pa_nil)))))), ?_⟩
    refine ⟨_, rfl, q, .str s, rfl, .inl ⟨_, .inr "start", .inl hq, rfl, (pl_start s d t).symm⟩, _, rfl, q, .ref d, rfl, .inl ⟨_, .inr "steps", .inl hq, rfl, (pl_steps s d t).symm⟩, _, rfl, q, .ref t, rfl, .inl ⟨_, .inr "tails", .inl hq, rfl, (pl_tails s d t).symm⟩, fun x dx hx hdx nxd => ?_⟩
    exact make_ok (K := K) (mg := mg) hst ht nd ok hx hdx nxd fun H2 s2 cv => k x H2 s2 cv
def spLRun (K : PySem.W.Frag) : Sp := fun vs H Q _ => ∃ (q : Addr) (z s : Str) (st : List StE) (tl : List (Str × Str)), vs = [.ref q, .str z] ∧ PlAt K H q s st tl ∧ OkParts s st tl ∧ isTxt z = true ∧
  ∀ (i : Nat) (w1 : List (Str × Str)) (e : Str) (L : Addr) H', Same H H' → H' L = some (.lst ((sts s w1).map V.str)) → w1.length = i → Wk st s (z.cps.toList.take i) w1 e → (i = z.length ∨ ∃ c, z.cps.toList[i]? = some c ∧ stepOf st e ⟨#[c]⟩ = none) → Q (.ref L) H'
theorem kp_run (T : Txt K mg) : Kf P w K mg base 1 "_law_run" ["_law_plan_here", "_law_text_here"] (spLRun K) := by
  refine T.d_lrun.okF sc_lrun (fun vs H Q E h => ?_) (fun f cdv A outer s H vs Q E hA hr h => ?_)
  · obtain ⟨q, z, s, st, tl, rfl, _⟩ := h
    rfl
  · obtain ⟨q, z, s0, st, tl, rfl, ⟨d, t, hq, hst, ht, nd⟩, ok, hT, k⟩ := h
    refine ⟨_, (pss_cons (ps_set (i := 2) sc_lrun.nd rfl (Or.inl rfl) (pe_lst (pa_cons (pe_dget (hu_of hr) (pv 0) (pe_str) (fun _ _ => rfl)) pa_nil)))
 (pss_cons (ps_for PassesOwn.never rfl (pi_str (pv 1)) (pg_name (i := 3) sc_lrun.nd rfl (Or.inl rfl))
 (pss_cons (ps_if (pt_cmp (pc_dnotin (hu_of hr) (pe_tup (pa_cons (pe_ix (ix_list : IxR _ (rIxL K)) (pv 2) (pe_un un_neg (pe_int)) (fun _ _ => rfl)) (pa_cons (pv 3) pa_nil))) (pe_dget (hu_of hr) (pv 0) (pe_str) (fun _ _ => rfl))))
 (pss_one (ps_ret (pv 2))) pss_nil)
 (pss_one (ps_set (i := 2) sc_lrun.nd rfl (Or.inl rfl) (pe_op op_cat (pv 2) (pe_lst (pa_cons (pe_ix (ix_tup : IxR _ (rIxT K)) (pe_dget (hu_of hr) (pe_dget (hu_of hr) (pv 0) (pe_str) (fun _ _ => rfl)) (pe_tup (pa_cons (pe_ix (ix_list : IxR _ (rIxL K)) (pv 2) (pe_un un_neg (pe_int)) (fun _ _ => rfl)) (pa_cons (pv 3) pa_nil))) (fun _ _ => rfl)) (pe_int) (fun _ _ => rfl)) pa_nil)))))))
 (pss_one (ps_ret (pv 2))))), ?_⟩
    have l4 : z.length ≤ 400 := okL_le hT
    have lz : z.cps.size = z.length := rfl
    obtain ⟨kvs, hd, hsk, ndk⟩ := hst
    refine ⟨_, rfl, q, .str s0, rfl, .inl ⟨_, .inr "start", .inl hq, rfl, (pl_start s0 d t).symm⟩, (by show 1 ≤ sizeLine; decide), fun A1 hA1 => ?_⟩
    have q1 : Same H (upd H A1 (.lst [.str s0])) := Same.new hA1
    have g1 : upd H A1 (.lst [.str s0]) A1 = some (.lst ((sts s0 []).map V.str)) := upd_same
    generalize upd H A1 (.lst [.str s0]) = H1 at q1 g1
    refine ⟨_, rfl, z, rfl, ?_⟩
    refine for_it (walk_str (z := z)) (fun i σ H' => ∃ (B : Addr) (v3 : Option V) (w1 : List (Str × Str)) (s' : Str),
      σ = [some (.ref q), some (.str z), some (.ref B), v3] ∧ Same H H' ∧ H' B = some (.lst ((sts s0 w1).map V.str)) ∧ w1.length = i ∧ Wk st s0 (z.cps.toList.take i) w1 s')
      ⟨A1, _, [], s0, rfl, q1, g1, rfl, by rw [List.take_zero]; exact .nil _⟩ (fun _ _ _ _ _ => True.intro) ?_ ?_
    · rintro i xv σ G0 H2 hi ⟨B, v3, w1, s', rfl, sm, gB, lw, wk⟩ ⟨rfl, cc, hc, rfl⟩
      have hcl : z.cps.toList[i]? = some cc := by rw [Array.getElem?_toList]; exact hc
      have tk : z.cps.toList.take (i + 1) = z.cps.toList.take i ++ [cc] := by
        rw [List.take_add_one, hcl]
        rfl
      have at5 := atI_lastS wk.last
      refine ⟨_, rfl, _, rfl, B, _, -1, .str s', rfl, rfl, SqL.of gB, at5, _, rfl, (by show 2 ≤ sizeLine; decide), fun kt hkt => ?_⟩
      have q2 : Same H2 (upd H2 kt (.tup [.str s', .str ⟨#[cc]⟩])) := Same.new hkt
      have hk : upd H2 kt (.tup [.str s', .str ⟨#[cc]⟩]) kt = some (.tup [.str s', .str ⟨#[cc]⟩]) := upd_same
      have sm2 := sm.trans q2
      have gB := q2 _ _ gB
      generalize upd H2 kt (.tup [.str s', .str ⟨#[cc]⟩]) = H3 at q2 hk sm2 gB
      refine ⟨_, rfl, q, .ref d, rfl, .inl ⟨_, .inr "steps", .inl (sm2 _ _ hq), rfl, (pl_steps s0 d t).symm⟩, ?_⟩
      refine ⟨d, _, rfl, .inr ⟨kvs, [.inr s', .inr ⟨#[cc]⟩], kt, .inl (sm2 _ _ hd), rfl, hk, rfl⟩, ?_⟩
      rcases (hsk.same sm2).get ndk s' ⟨#[cc]⟩ with ⟨e1, e2⟩ | ⟨a, to, qa, e1, e2, e3⟩
      · rw [e2]
        refine ⟨_, rfl, iteT ?_⟩
        exact ⟨_, rfl, k i w1 s' B H3 sm2 gB lw wk (.inr ⟨cc, hcl, e1⟩)⟩
      · rw [e2]
        refine ⟨_, rfl, iteF ?_⟩
        refine ⟨_, rfl, _, rfl, q, .ref d, rfl, .inl ⟨_, .inr "steps", .inl (sm2 _ _ hq), rfl, (pl_steps s0 d t).symm⟩, _, rfl, _, rfl, B, _, -1, .str s', rfl, rfl, SqL.of gB, at5, _, rfl, (by show 2 ≤ sizeLine; decide), fun kt2 hkt2 => ?_⟩
        have q4 : Same H3 (upd H3 kt2 (.tup [.str s', .str ⟨#[cc]⟩])) := Same.new hkt2
        have hk2 : upd H3 kt2 (.tup [.str s', .str ⟨#[cc]⟩]) kt2 = some (.tup [.str s', .str ⟨#[cc]⟩]) := upd_same
        have sm3 := sm2.trans q4
        have gB := q4 _ _ gB
        have e3 := e3.ext q4
        generalize upd H3 kt2 (.tup [.str s', .str ⟨#[cc]⟩]) = H4 at q4 hk2 sm3 gB e3
        refine ⟨d, .ref qa, rfl, .inr ⟨kvs, [.inr s', .inr ⟨#[cc]⟩], kt2, .inl (sm3 _ _ hd), rfl, hk2, e2.symm⟩, ?_⟩
        refine ⟨qa, _, 1, .str to, rfl, rfl, e3, rfl, (by show 1 ≤ sizeLine; decide), fun l1 hl1 => ?_⟩
        have q5 : Same H4 (upd H4 l1 (.lst [.str to])) := Same.new hl1
        have n5 : upd H4 l1 (.lst [.str to]) l1 = some (.lst [.str to]) := upd_same
        have sm4 := sm3.trans q5
        have gB := q5 _ _ gB
        generalize upd H4 l1 (.lst [.str to]) = H5 at q5 n5 sm4 gB
        have sl : (sts s0 w1).length = i + 1 := by
          unfold sts
          rw [List.length_cons, List.length_map, lw]
        refine ⟨B, l1, _, _, rfl, rfl, gB, n5, ?_, fun C5 hC5 => ?_⟩
        · rw [List.length_map, sl]
          show i + 1 + 1 ≤ sizeLine
          exact Nat.le_trans (show _ ≤ 1000 by omega) (by decide)
        refine ⟨C5, _, w1 ++ [(a, to)], to, rfl, sm4.trans (Same.new hC5), ?_, by rw [List.length_append, lw]; rfl, by rw [tk]; exact wk.snoc e1⟩
        rw [upd_same, sts_snoc, List.map_append]
        rfl
    · rintro σ H' ⟨B, v3, w1, s', rfl, sm, gB, lw, wk⟩
      exact ⟨_, rfl, k z.cps.size w1 s' B H' sm gB lw wk (.inl rfl)⟩
end
end KC
namespace KC
open PySem L2 PyProof.Rows
theorem ok_ofString (x : String) : PyData.strOk (Str.ofString x) = true := by
  rw [Str.ofString_eq_toList]
  unfold PyData.strOk
  rw [← Array.all_toList, List.all_eq_true]
  intro c hc
  simp only [List.mem_map] at hc
  obtain ⟨k, _, rfl⟩ := hc
  have := k.valid
  refine decide_eq_true ?_
  rcases this with h | ⟨_, h⟩
  · exact Nat.lt_trans h (by decide)
  · exact h
theorem ok_abc : ∀ c ∈ abc.cps.toList, c < 1114112 ∧ ∀ q ∈ ([34, 39] : List Nat), (Builtin.Str.reprChar q c).all (fun c => decide (c < 1114112)) = true := by decide +kernel
theorem ok_fold (q : Nat) (hq : q ∈ ([34, 39] : List Nat)) : ∀ (l : List Nat) (acc : Array Nat), (∀ c ∈ l, c ∈ abc.cps.toList) → acc.toList.all (fun c => decide (c < 1114112)) = true →
    (l.foldl (fun out c => out ++ (Builtin.Str.reprChar q c).toArray) acc).toList.all (fun c => decide (c < 1114112)) = true
  | [], acc, _, h => h
  | c :: r, acc, hl, h => by
    rw [List.foldl_cons]
    refine ok_fold q hq r _ (fun d hd => hl d (List.mem_cons_of_mem _ hd)) ?_
    rw [Array.toList_append, List.all_append, h, (ok_abc c (hl c List.mem_cons_self)).2 q hq]
    rfl
theorem ok_repr {lo hi : Nat} {x : Str} (h : okL lo hi x = true) : PyData.strOk (reprText x) = true := by
  have hx : ∀ c ∈ x.cps.toList, c ∈ abc.cps.toList := by
    unfold okL at h
    simp only [Bool.and_eq_true, List.all_eq_true, decide_eq_true_eq] at h
    exact h.2.2
  have hq : reprQuote x ∈ ([34, 39] : List Nat) := by
    unfold reprQuote
    split <;> decide
  have hq2 : decide (reprQuote x < 1114112) = true := by
    unfold reprQuote
    split <;> rfl
  unfold PyData.strOk reprText
  rw [← Array.all_toList, Array.toList_push, List.all_append, ← Array.foldl_toList]
  have := ok_fold (reprQuote x) hq x.cps.toList #[reprQuote x] hx (by simp only [List.all_cons, List.all_nil, Bool.and_true]; exact hq2)
  rw [this]
  simp only [List.all_cons, List.all_nil, Bool.and_true]
  exact hq2
theorem ok_let {lo hi : Nat} {x : Str} (h : okL lo hi x = true) : PyData.strOk x = true := by
  unfold okL at h
  simp only [Bool.and_eq_true, List.all_eq_true, decide_eq_true_eq] at h
  unfold PyData.strOk
  rw [← Array.all_toList, List.all_eq_true]
  exact fun c hc => decide_eq_true (ok_abc c (h.2.2 c hc)).1
theorem dp_strs {K : PySem.W.Frag} {H : Hp} : ∀ ts : List Str, DpAll K H (ts.map V.str) (ts.map PyData.str)
  | [] => .nil
  | x :: ts => .cons (.str x) (dp_strs ts)
theorem can_strs : ∀ ts : List Str, ts.all PyData.strOk = true → PyData.canLayAll0 (ts.map PyData.str) = true
  | [], _ => by simp [PyData.canLayAll0]
  | x :: ts, h => by
    simp only [List.all_cons, Bool.and_eq_true] at h
    simp [PyData.canLayAll0, PyData.canLay0, h.1, can_strs ts h.2]
theorem dep_strs : ∀ ts : List Str, PyData.depthAll (ts.map PyData.str) ≤ 1
  | [] => by simp [PyData.depthAll]
  | x :: ts => by
    have := dep_strs ts
    simp [PyData.depthAll, PyData.depth]
    omega
theorem shaped_lst {zs : List Str} (h : ∀ y ∈ zs, PyData.strOk y = true) : SeqAt.shaped (.list (zs.map PyData.str)) = true := by
  have h1 := dep_strs zs
  have h2 := can_strs zs (List.all_eq_true.mpr h)
  simp [SeqAt.shaped, PyData.canLay0, PyData.depth, h2]
  omega
theorem eqv_nilS (xs : List Str) : PyData.eqv (.list (xs.map PyData.str)) (.list []) = xs.isEmpty := by
  rw [eqv_nil]
  cases xs <;> rfl
end KC
namespace KC
open PySem L2 PyProof.Rows
theorem txt_snoc {z y : Str} (h : isTxt z = true) (hy : isLet y = true) (hn : z.length < 100) : isTxt (z ++ y) = true ∧ (z ++ y).length = z.length + 1 := by
  have ly : y.length = 1 := by
    unfold isLet okL at hy
    simp only [Bool.and_eq_true, decide_eq_true_eq] at hy
    omega
  have l2 : (z ++ y).length = z.length + 1 := by rw [strLen_append, ly]
  refine ⟨?_, l2⟩
  unfold isTxt okL at h ⊢
  unfold isLet okL at hy
  simp only [Bool.and_eq_true, decide_eq_true_eq, List.all_eq_true] at h hy ⊢
  refine ⟨Nat.zero_le _, by omega, fun c hc => ?_⟩
  have e : (z ++ y).cps.toList = z.cps.toList ++ y.cps.toList := by
    show (z.cps ++ y.cps).toList = _
    exact Array.toList_append
  rw [e] at hc
  rcases List.mem_append.mp hc with hc | hc
  · exact h.2.2 c hc
  · exact hy.2.2 c hc
def qLetters : List Str := ["a", "b", "n", "q"]
theorem qLetters_ok : ∀ x ∈ qLetters, isLet x = true := by decide +kernel
/-- a letter is picked -/
theorem pick_letter {K : PySem.W.Frag} {σ : L2.St} {H : Hp} {p c D : Addr} {ns : List Int} {n : Nat} {xs : List Str} {Kf : VK} (h0 : σ[0]? = some (some (.ref p))) (h6 : σ[6]? = some (some (.ref D))) (hp : PenAt H p c ns n) (hlen : ns.length ≤ 63) (hn : n < 999000)
    (gD : H D = some (.lst (xs.map V.str))) (nD : D ≠ p) (lx : xs.length ≤ 100) (hxs : ∀ x ∈ xs, isLet x = true) (k : ∀ (y : Str) H', isLet y = true → PenAt H' p c ns (n + 2) → But p H H' → Kf (.str y) H') :
    (tIf (tAnd (tTest (tOp (rNeD K) (tVar 6) (tLst tNil))) (tTest (tOp (rI0 fun i j => V.bl (decide (j < i))) (tCall spDraw [] E0 (tCons (tVar 0) (tCons (tC (V.int 12)) tNil))) (tC (V.int 0)))))
      (tCall spPick [] E0 (tCons (tVar 0) (tCons (tVar 6) tNil)))
      (tCall spPick [] E0 (tCons (tVar 0) (tCons (tLst (tCons (tC (V.str (Str.ofString "a"))) (tCons (tC (V.str (Str.ofString "b"))) (tCons (tC (V.str (Str.ofString "n"))) (tCons (tC (V.str (Str.ofString "q"))) tNil))))) tNil)))) σ H Kf := by
  have other : ∀ (H1 : Hp) (m : Nat), m ≤ n + 1 → PenAt H1 p c ns m → But p H H1 → (tCall spPick [] E0 (tCons (tVar 0) (tCons (tLst (tCons (tC (V.str (Str.ofString "a"))) (tCons (tC (V.str (Str.ofString "b"))) (tCons (tC (V.str (Str.ofString "n"))) (tCons (tC (V.str (Str.ofString "q"))) tNil))))) tNil))) σ H1 Kf := by
    intro H1 m hm hp1 b1
    refine ⟨_, h0, (by show 4 ≤ sizeLine; decide), fun L hL => ?_⟩
    have s1 : Same H1 (upd H1 L (.lst (qLetters.map V.str))) := Same.new hL
    refine ⟨p, c, L, qLetters.map V.str, ns, m, rfl, hp1.same s1, hlen, upd_same, (hp1.fresh hL).1, (by show 0 < 4; decide), (by show 4 < 1000000; decide), by omega, fun v H2 hv gp2 b2 => ?_⟩
    obtain ⟨y, hy, rfl⟩ := List.mem_map.mp hv
    exact k y H2 (qLetters_ok y hy) (gp2.mono (by omega)) (But.tr b1 (But.tr (But.of_same s1) b2))
  refine ⟨_, h6, (by show 0 ≤ sizeLine; decide), fun L0 hL0 => ?_⟩
  have s1 : Same H (upd H L0 (.lst [])) := Same.new hL0
  have hp1 := hp.same s1
  have gD1 := s1 _ _ gD
  have b1 : But p H (upd H L0 (.lst [])) := But.of_same s1
  refine ⟨_, _, .lst (SqL.of gD1) (dp_strs xs), .lst (SqL.of upd_same) .nil, shaped_lst fun y hy => ok_let (hxs y hy), rfl, _, rfl, ?_⟩
  rw [eqv_nilS]
  generalize upd H L0 (.lst []) = H1 at hp1 gD1 b1
  cases hx : xs with
  | nil => exact iteF (iteF (other H1 n (by omega) hp1 b1))
  | cons x0 xr =>
    refine iteT ?_
    refine ⟨_, h0, p, c, _, ns, _, rfl, hp1, hlen, by decide, by decide, by omega, fun r H2 r0 r1 gp2 b2 => ?_⟩
    refine ⟨_, _, rfl, rfl, _, rfl, ?_⟩
    refine ite2 (fun c1 => ?_) (fun c1 => ?_)
    · refine ⟨_, h0, _, h6, p, c, D, _, ns, _, rfl, gp2, hlen, b2 D nD _ gD1, nD, ?_, ?_, by omega, fun v H3 hv gp3 b3 => ?_⟩
      · rw [List.length_map, hx]
        simp
      · rw [List.length_map]
        omega
      · obtain ⟨y, hy, rfl⟩ := List.mem_map.mp hv
        exact k y H3 (hxs y hy) gp3 (But.tr b1 (But.tr b2 b3))
    · exact other H2 (n + 1) (by omega) gp2 (But.tr b1 b2)
section
variable {P : Program} {w : World} {K : PySem.W.Frag} {mg : Str → Option Value} {base : Heap}
def spLText (K : PySem.W.Frag) : Sp := fun vs H Q _ => ∃ (p c q : Addr) (ns : List Int) (n : Nat) (s : Str) (st : List StE) (tl : List (Str × Str)), vs = [.ref p, .ref q, .int 12] ∧ PenAt H p c ns n ∧ ns.length ≤ 63 ∧ n < 900000 ∧ PlAt K H q s st tl ∧ OkParts s st tl ∧ st.length ≤ 30 ∧
  ∀ (z : Str) (H' : Hp), isTxt z = true → z.length ≤ 12 → PenAt H' p c ns (n + 50) → But p H H' → Q (.str z) H'
theorem kp_ltext (T : Txt K mg) : Kf P w K mg base 3 "_law_text" ["_law_pen_here", "_law_plan_here", "_law_most"] (spLText K) := by
  refine T.d_ltext.okF sc_ltext (fun vs H Q E h => ?_) (fun f cdv A outer s H vs Q E hA hr h => ?_)
  · obtain ⟨p, c, q, ns, n, s, st, tl, rfl, _⟩ := h
    rfl
  · obtain ⟨p, c, q, ns, n, s0, st, tl, rfl, hp, hlen, hn, pl, ok, l30, k⟩ := h
    refine ⟨_, (pss_cons (ps_asg (pe_tup (pa_cons (pe_str) (pa_cons (pe_dget (hu_of hr) (pv 1) (pe_str) (fun _ _ => rfl)) pa_nil))) (pg_tup rfl (pgs_cons (pg_name (i := 3) sc_ltext.nd rfl (Or.inl rfl)) (pgs_cons (pg_name (i := 4) sc_ltext.nd rfl (Or.inr rfl)) pgs_nil))))
 (pss_cons (ps_for PassesOwn.never rfl (pi_range1 (by rfl) (T.nb _ (by decide)) (pa_cons (pe_kf (kp_draw T) hA hr (by rfl) (pa_cons (pv 0) (pa_cons (pe_op op_add (pv 2) (pe_int)) pa_nil))) pa_nil)) (pg_name (i := 5) sc_ltext.nd rfl (Or.inl rfl))
 (pss_cons (ps_lock (ps_setLc (i := 6) (own := [("_law_key", 8)]) (g := gName 8) rfl sc_ltext.nd rfl rfl (sw_true rfl rfl rfl (by decide +kernel)) (pi_keys (pe_dget (hu_of hr) (pv 1) (pe_str) (fun _ _ => rfl))) (blkOk_by (N := n_ltext) (sc := defScope s_ltext) (by decide +kernel)) (fun _ _ _ _ _ => pg_name (i := 8) sc_ltext.nd rfl (Or.inl rfl)) (fun _ _ _ _ _ => (pts_one (pt_cmpR op_eq (pe_ix (ix_tup : IxR _ (rIxT K)) (pv 8) (pe_int) (fun _ _ => rfl)) (pv 4) (nomark _)))) (fun _ _ _ _ _ => (pe_ix (ix_tup : IxR _ (rIxT K)) (pv 8) (pe_int) (fun _ _ => rfl)))))
 (pss_cons (ps_set (i := 7) sc_ltext.nd rfl (Or.inl rfl) (pe_ifExp (PW.pt (pw_and (pt_cmpR (op_neD hr.units) (pv 6) (pe_lst pa_nil) (nomark _)) (pw_and1 (pt_cmpR op_gt (pe_kf (kp_draw T) hA hr (by rfl) (pa_cons (pv 0) (pa_cons (pe_int) pa_nil))) (pe_int) (nomark _))))) (pe_kf (kp_pick T) hA hr (by rfl) (pa_cons (pv 0) (pa_cons (pv 6) pa_nil))) (pe_kf (kp_pick T) hA hr (by rfl) (pa_cons (pv 0) (pa_cons (pe_lst (pa_cons (pe_str) (pa_cons (pe_str) (pa_cons (pe_str) (pa_cons (pe_str) pa_nil))))) pa_nil)))))
 (pss_cons (ps_set (i := 3) sc_ltext.nd rfl (Or.inl rfl) (pe_op op_add_str (pv 3) (pv 7)))
 (pss_one (ps_set (i := 4) sc_ltext.nd rfl (Or.inr rfl) (pe_ifExp (pt_cmp (pc_din (hu_of hr) (pe_tup (pa_cons (pv 4) (pa_cons (pv 7) pa_nil))) (pe_dget (hu_of hr) (pv 1) (pe_str) (fun _ _ => rfl)))) (pe_ix (ix_tup : IxR _ (rIxT K)) (pe_dget (hu_of hr) (pe_dget (hu_of hr) (pv 1) (pe_str) (fun _ _ => rfl)) (pe_tup (pa_cons (pv 4) (pa_cons (pv 7) pa_nil))) (fun _ _ => rfl)) (pe_int) (fun _ _ => rfl)) (pv 4))))))))
 (pss_one (ps_ret (pv 3))))), ?_⟩
    obtain ⟨d, t, hq, _⟩ := id pl
    refine ⟨_, rfl, q, .str s0, rfl, .inl ⟨_, .inr "start", .inl hq, rfl, (pl_start s0 d t).symm⟩, (by show 2 ≤ sizeLine; decide), fun A1 hA1 => ⟨A1, _, rfl, SqT.of upd_same, rfl, _, _, rfl, _, _, rfl, rfl, ?_⟩⟩
    have s1 : Same H (upd H A1 (.tup [.str "", .str s0])) := Same.new hA1
    have hp1 := hp.same s1
    have pl1 := pl.same s1
    have b1 : But p H (upd H A1 (.tup [.str "", .str s0])) := But.of_same s1
    generalize upd H A1 (.tup [.str "", .str s0]) = H1 at hp1 pl1 b1
    refine ⟨_, rfl, _, rfl, _, _, rfl, rfl, p, c, _, ns, _, rfl, hp1, hlen, by decide, by decide, by omega, fun m H2 m0 m1 hp2 b2 => ?_⟩
    refine ⟨_, rfl, by omega, by omega, ?_⟩
    have pl2 := pl1.but hp1.lst b2
    refine for_it (walk_range (lo := 0) (n := m.toNat)) (fun i σ H' => ∃ (z s' : Str) (v5 v6 v7 : Option V), σ = [some (.ref p), some (.ref q), some (.int 12), some (.str z), some (.str s'), v5, v6, v7, none] ∧
      isTxt z = true ∧ z.length = i ∧ PenAt H' p c ns (n + 1 + 2 * i) ∧ PlAt K H' q s0 st tl ∧ But p H H')
      ⟨"", s0, _, _, _, rfl, by decide +kernel, rfl, hp2, pl2, But.tr b1 b2⟩ (fun _ _ _ _ _ => True.intro) ?_ ?_
    · rintro i xv σ G0 G hi ⟨z, s', v5, v6, v7, rfl, hz, zl, gp, pl, gb⟩ ⟨rfl, ex⟩
      have hi20 : i < 12 := by omega
      obtain ⟨d, t, hq, hst, ht, nd⟩ := id pl
      obtain ⟨kvs, hd, hsk, ndk⟩ := id hst
      refine ⟨d, _, hd, trivial, fun od => ?_⟩
      have hl : upd G d (.frz od (.dT kvs)) d = some (.frz od (.dT kvs)) := upd_same
      have hsk' := hsk.lock (o := od) hd
      have hqd : q ≠ d := fun z => by rw [z, hd] at hq; cases hq
      have hq' : upd G d (.frz od (.dT kvs)) q = some (.dK (plD s0 d t)) := upd_oth hqd hq
      generalize hHL : upd G d (.frz od (.dT kvs)) = HL at hl hsk' hq'
      refine ⟨_, rfl, q, .ref d, rfl, .inl ⟨_, .inr "steps", .inl hq', rfl, (pl_steps s0 d t).symm⟩, d, od, rfl, .inr ⟨kvs, hl, fun D hD => ?_⟩⟩
      refine lc_it (walk_keysT (d := d) (o := od) (kvs := kvs)) (fun i H' => Same HL H' ∧ ∃ xs : List Str, H' D = some (.lst (xs.map V.str)) ∧ xs.length ≤ i ∧ ∀ x ∈ xs, isLet x = true) ⟨Same.new hD, [], upd_same, Nat.le_refl _, fun x hx => (by cases hx)⟩ (fun i H' _ p => p.1 _ _ hl) ?_ ?_
      · rintro j x H1 H2 hj ⟨sm, xs, gD, lx, hxs⟩ ⟨rfl, k0, v0, kq, e0, rfl, hkq⟩
        have hj' : j < st.length := by rw [hsk.len] at hj; exact hj
        obtain ⟨e, he⟩ : ∃ e, st[j]? = some e := ⟨_, List.getElem?_eq_getElem hj'⟩
        obtain ⟨qv, h1, h2⟩ := (hsk'.same sm).2 j e he
        rw [h1] at e0
        obtain ⟨rfl, rfl⟩ := Prod.mk.inj (Option.some.inj e0)
        have hkq' : H2 kq = some (.tup [.str e.1.1, .str e.1.2]) := hkq
        have hle := (ok.ost e (List.mem_of_getElem? he)).2.1
        refine ⟨rfl, ?_⟩
        refine ⟨_, rfl, kq, _, 0, .str e.1.1, rfl, rfl, SqT.of hkq', rfl, _, rfl, rfl, _, rfl, ?_⟩
        refine ite2 (fun c1 => ?_) (fun c1 => ?_)
        · refine ⟨_, rfl, kq, _, 1, .str e.1.2, rfl, rfl, SqT.of hkq', rfl, xs.map V.str, gD, ?_, ?_, xs ++ [e.1.2], ?_, ?_, ?_⟩
          · rw [List.length_map]
            exact Nat.lt_of_lt_of_le (show xs.length < 400 by omega) (by decide)
          · exact fun b o eb => upd_oth (fun z => by rw [z, hD] at eb; cases eb) (sm _ _ eb)
          · rw [upd_same, List.map_append]
            rfl
          · rw [List.length_append]
            show xs.length + 1 ≤ j + 1
            omega
          · intro y hy
            rcases List.mem_append.mp hy with h | h
            · exact hxs y h
            · rw [List.mem_singleton.mp h]
              exact hle
        · exact ⟨sm, xs, gD, by omega, hxs⟩
      · rintro H1 ⟨sm, xs, gD, lx, hxs⟩
        have nDd : D ≠ d := fun z => by rw [z, hl] at hD; cases hD
        refine ⟨sm _ _ hl, ?_⟩
        have sU : Same G (upd H1 d (.dT kvs)) := unlock_same (u' := .frz od (.dT kvs)) hd (by rw [hHL]; exact sm)
        have gDU : upd H1 d (.dT kvs) D = some (.lst (xs.map V.str)) := upd_oth nDd gD
        generalize upd H1 d (.dT kvs) = GU at sU gDU
        have nDp : D ≠ p := by
          intro z
          obtain ⟨ys, ey⟩ := gp.lst
          have : HL p = some (.lst ys) := by
            rw [← hHL]
            exact upd_oth (fun z => by rw [z, hd] at ey; cases ey) ey
          rw [z, this] at hD
          cases hD
        have gpU := gp.same sU
        have plU := pl.same sU
        refine pick_letter (K := K) rfl rfl gpU hlen (by omega) gDU nDp (by rw [hsk.len] at lx; omega) hxs fun y G4 hy gp4 b4 => ?_
        have pl4 := plU.but gpU.lst b4
        have gb4 := But.tr gb (But.tr (But.of_same sU) b4)
        obtain ⟨hz2, zl2⟩ := txt_snoc hz hy (by omega)
        have ly : y.length ≤ 1 := okL_le hy
        refine ⟨_, rfl, _, rfl, z, y, rfl, rfl, Nat.le_trans (show z.length + y.length ≤ 100 by omega) (by decide), ?_⟩
        obtain ⟨d2, t2, hq2, ⟨kv2, hd2, hsk2, ndk2⟩, _, _⟩ := id pl4
        refine ⟨_, rfl, _, rfl, (by show 2 ≤ sizeLine; decide), fun kt hkt => ?_⟩
        have q2 : Same G4 (upd G4 kt (.tup [.str s', .str y])) := Same.new hkt
        have hk : upd G4 kt (.tup [.str s', .str y]) kt = some (.tup [.str s', .str y]) := upd_same
        generalize upd G4 kt (.tup [.str s', .str y]) = G5 at q2 hk
        refine ⟨_, rfl, q, .ref d2, rfl, .inl ⟨_, .inr "steps", .inl (q2 _ _ hq2), rfl, (pl_steps s0 d2 t2).symm⟩, ?_⟩
        refine ⟨d2, _, rfl, .inr ⟨kv2, [.inr s', .inr y], kt, .inl (q2 _ _ hd2), rfl, hk, rfl⟩, ?_⟩
        rcases (hsk2.same q2).get ndk2 s' y with ⟨e1, e2⟩ | ⟨a, to, qa, e1, e2, e3⟩
        · rw [e2]
          refine ⟨_, rfl, iteF ?_⟩
          exact ⟨_, rfl, z ++ y, s', _, _, _, rfl, hz2, by omega, (gp4.same q2).mono (by omega), pl4.same q2, But.tr gb4 (But.of_same q2)⟩
        · rw [e2]
          refine ⟨_, rfl, iteT ?_⟩
          refine ⟨_, rfl, q, .ref d2, rfl, .inl ⟨_, .inr "steps", .inl (q2 _ _ hq2), rfl, (pl_steps s0 d2 t2).symm⟩, _, rfl, _, rfl, (by show 2 ≤ sizeLine; decide), fun kt2 hkt2 => ?_⟩
          have q4 : Same G5 (upd G5 kt2 (.tup [.str s', .str y])) := Same.new hkt2
          have hk2 : upd G5 kt2 (.tup [.str s', .str y]) kt2 = some (.tup [.str s', .str y]) := upd_same
          have e3 := e3.ext q4
          generalize upd G5 kt2 (.tup [.str s', .str y]) = G6 at q4 hk2 e3
          have q24 := q2.trans q4
          refine ⟨d2, .ref qa, rfl, .inr ⟨kv2, [.inr s', .inr y], kt2, .inl (q24 _ _ hd2), rfl, hk2, e2.symm⟩, ?_⟩
          refine ⟨qa, _, 1, .str to, rfl, rfl, e3, rfl, ?_⟩
          exact ⟨z ++ y, to, _, _, _, rfl, hz2, by omega, (gp4.same q24).mono (by omega), pl4.same q24, But.tr gb4 (But.of_same q24)⟩
    · rintro σ G ⟨z, s', v5, v6, v7, rfl, hz, zl, gp, pl, gb⟩
      exact ⟨_, rfl, k z G hz (by omega) (gp.mono (by omega)) gb⟩
end
end KC
namespace KC
open PySem L2 PyProof.Rows
theorem addN_mem1 (l : List Str) (x : Str) : x ∈ addN l x := by
  unfold addN
  split
  · assumption
  · simp
theorem addN_mem2 {l : List Str} {x y : Str} (h : y ∈ l) : y ∈ addN l x := by
  unfold addN
  split
  · exact h
  · exact List.mem_append_left _ h
theorem foldN_mem {y : Str} : ∀ (xs l : List Str), y ∈ l → y ∈ xs.foldl addN l
  | [], l, h => h
  | x :: xs, l, h => by
    rw [List.foldl_cons]
    exact foldN_mem xs _ (addN_mem2 h)
theorem foldS_mem {y : Str} : ∀ (st : List StE) (l : List Str), y ∈ l → y ∈ st.foldl addS l
  | [], l, h => h
  | e :: st, l, h => by
    rw [List.foldl_cons]
    exact foldS_mem st _ (addN_mem2 (addN_mem2 h))
theorem foldS_to {e : StE} : ∀ (st : List StE) (l : List Str), e ∈ st → e.2.2 ∈ st.foldl addS l
  | [], l, h => by cases h
  | x :: st, l, h => by
    rw [List.foldl_cons]
    rcases List.mem_cons.mp h with rfl | h
    · exact foldS_mem st _ (addN_mem1 _ _)
    · exact foldS_to st _ h
theorem names_start (s : Str) (st : List StE) (tl : List (Str × Str)) : s ∈ namesOf s st tl := foldN_mem _ _ (foldS_mem _ _ (by simp))
theorem names_from {s : Str} {e : StE} {st : List StE} {tl : List (Str × Str)} (h : e ∈ st) : e.1.1 ∈ namesOf s st tl ∧ e.2.2 ∈ namesOf s st tl := by
  have go : ∀ (st : List StE) (l : List Str), e ∈ st → e.1.1 ∈ st.foldl addS l := by
    intro st
    induction st with
    | nil => intro l h; cases h
    | cons x st ih =>
      intro l h
      rw [List.foldl_cons]
      rcases List.mem_cons.mp h with rfl | h
      · exact foldS_mem st _ (addN_mem2 (addN_mem1 _ _))
      · exact ih _ h
  exact ⟨foldN_mem _ _ (go st [s] h), foldN_mem _ _ (foldS_to st [s] h)⟩
/-- some states of a plan -/
structure Sts (s : Str) (st : List StE) (tl : List (Str × Str)) (xs : List Str) : Prop where
  nd : xs.Nodup
  mem : ∀ x ∈ xs, x ∈ namesOf s st tl
  nm : ∀ x ∈ xs, isName x = true
theorem Sts.le {s : Str} {st : List StE} {tl : List (Str × Str)} {xs : List Str} (h : Sts s st tl xs) (ok : OkParts s st tl) : xs.length ≤ 6 := Nat.le_trans (nd_len h.nd h.mem) ok.n6
theorem Sts.snoc {s : Str} {st : List StE} {tl : List (Str × Str)} {xs : List Str} {x : Str} (h : Sts s st tl xs) (hx : x ∉ xs) (m : x ∈ namesOf s st tl) (n : isName x = true) : Sts s st tl (xs ++ [x]) where
  nd := by
    rw [List.nodup_append]
    exact ⟨h.nd, by simp, fun a ha b hb e => hx (by rw [List.mem_singleton.mp hb] at e; rw [← e]; exact ha)⟩
  mem := fun y hy => by
    rcases List.mem_append.mp hy with hy | hy
    · exact h.mem y hy
    · rw [List.mem_singleton.mp hy]
      exact m
  nm := fun y hy => by
    rcases List.mem_append.mp hy with hy | hy
    · exact h.nm y hy
    · rw [List.mem_singleton.mp hy]
      exact n
theorem inV_strs (q : Str) (ys : List Str) : inV (.str q) (ys.map V.str) = decide (q ∈ ys) := by
  unfold inV
  rw [List.any_map, Bool.eq_iff_iff, List.any_eq_true, decide_eq_true_eq]
  constructor
  · rintro ⟨y, hy, e⟩
    have : eqV (.str y) (.str q) = true := e
    have : y = q := by simpa [eqV] using this
    rw [← this]
    exact hy
  · intro h
    exact ⟨q, h, by simp [eqV]⟩
theorem flatS : ∀ ys : List Str, (ys.map V.str).all flatV = true
  | [] => rfl
  | y :: ys => by
    rw [List.map_cons, List.all_cons, flatS ys]
    rfl
section
variable {P : Program} {w : World} {K : PySem.W.Frag} {mg : Str → Option Value} {base : Heap}
def spBehind (K : PySem.W.Frag) : Sp := fun vs H Q _ => ∃ (q L : Addr) (s : Str) (st : List StE) (tl : List (Str × Str)) (xs : List Str), vs = [.ref q, .ref L] ∧ PlAt K H q s st tl ∧ OkParts s st tl ∧ H L = some (.lst (xs.map V.str)) ∧ Sts s st tl xs ∧
  ∀ (ys : List Str) (D : Addr) H', Sts s st tl ys → Same H H' → H' D = some (.lst (ys.map V.str)) → Q (.ref D) H'
theorem kp_behind (T : Txt K mg) : Kf P w K mg base 1 "_law_behind" ["_law_plan_here", "_law_states"] (spBehind K) := by
  refine T.d_lbehind.okF sc_lbehind (fun vs H Q E h => ?_) (fun f cdv A outer s H vs Q E hA hr h => ?_)
  · obtain ⟨q, L, s, st, tl, xs, rfl, _⟩ := h
    rfl
  · obtain ⟨q, L, s0, st, tl, xs, rfl, pl, ok, hL, hx, k⟩ := h
    refine ⟨_, (pss_cons (ps_set (i := 2) sc_lbehind.nd rfl (Or.inl rfl) (pe_callTy call_list_of (by rfl) (T.nb _ (by decide)) (by decide +kernel) (pa_cons (pv 1) pa_nil)))
 (pss_cons (ps_for PassesOwn.never rfl (pi_range1 (by rfl) (T.nb _ (by decide)) (pa_cons (pe_int) pa_nil)) (pg_name (i := 3) sc_lbehind.nd rfl (Or.inl rfl))
 (pss_one (ps_lock (ps_for PassesOwn.never rfl (pi_keys (pe_dget (hu_of hr) (pv 0) (pe_str) (fun _ _ => rfl))) (pg_name (i := 4) sc_lbehind.nd rfl (Or.inl rfl))
 (pss_one (ps_if (PW.pt (pw_and (pt_cmpR (op_in_seq : OpR _ _ (rIn K false)) (pe_ix (ix_tup : IxR _ (rIxT K)) (pv 4) (pe_int) (fun _ _ => rfl)) (pv 2) rfl) (pw_and1 (pt_cmpR (op_notIn_seq : OpR _ _ (rIn K true)) (pe_ix (ix_tup : IxR _ (rIxT K)) (pe_dget (hu_of hr) (pe_dget (hu_of hr) (pv 0) (pe_str) (fun _ _ => rfl)) (pv 4) (fun _ _ => rfl)) (pe_int) (fun _ _ => rfl)) (pv 2) rfl))))
 (pss_one (ps_set (i := 2) sc_lbehind.nd rfl (Or.inl rfl) (pe_op op_cat (pv 2) (pe_lst (pa_cons (pe_ix (ix_tup : IxR _ (rIxT K)) (pe_dget (hu_of hr) (pe_dget (hu_of hr) (pv 0) (pe_str) (fun _ _ => rfl)) (pv 4) (fun _ _ => rfl)) (pe_int) (fun _ _ => rfl)) pa_nil))))) pss_nil))))))
 (pss_one (ps_ret (pv 2))))), ?_⟩
    refine ⟨_, rfl, L, _, rfl, .inl (SqL.of hL), fun B hB => ?_⟩
    have s1 : Same H (upd H B (.lst (xs.map V.str))) := Same.new hB
    have gB : upd H B (.lst (xs.map V.str)) B = some (.lst (xs.map V.str)) := upd_same
    generalize upd H B (.lst (xs.map V.str)) = H1 at s1 gB
    refine ⟨_, rfl, by decide, by decide, ?_⟩
    refine for_it (walk_range (lo := 0) (n := 6)) (fun i σ H' => ∃ (B : Addr) (v3 v4 : Option V) (ys : List Str), σ = [some (.ref q), some (.ref L), some (.ref B), v3, v4] ∧ Same H H' ∧ H' B = some (.lst (ys.map V.str)) ∧ Sts s0 st tl ys)
      ⟨B, _, _, xs, rfl, s1, gB, hx⟩ (fun _ _ _ _ _ => True.intro) ?_ ?_
    · rintro i xv σ G0 G hi ⟨B, v3, v4, ys, rfl, sm, gB, hy⟩ ⟨rfl, ex⟩
      obtain ⟨d, t, hq, hst, ht, nd⟩ := id (pl.same sm)
      obtain ⟨kvs, hd, hsk, ndk⟩ := id hst
      refine ⟨d, _, hd, trivial, fun od => ?_⟩
      have hl : upd G d (.frz od (.dT kvs)) d = some (.frz od (.dT kvs)) := upd_same
      have hsk' := hsk.lock (o := od) hd
      have hqd : q ≠ d := fun z => by rw [z, hd] at hq; cases hq
      have hBd : B ≠ d := fun z => by rw [z, hd] at gB; cases gB
      have hq' : upd G d (.frz od (.dT kvs)) q = some (.dK (plD s0 d t)) := upd_oth hqd hq
      have gB' : upd G d (.frz od (.dT kvs)) B = some (.lst (ys.map V.str)) := upd_oth hBd gB
      generalize hHL : upd G d (.frz od (.dT kvs)) = HL at hl hsk' hq' gB'
      refine ⟨_, rfl, q, .ref d, rfl, .inl ⟨_, .inr "steps", .inl hq', rfl, (pl_steps s0 d t).symm⟩, d, od, rfl, .inr ⟨kvs, hl, ?_⟩⟩
      refine for_it (walk_keysT (d := d) (o := od) (kvs := kvs)) (fun i σ H' => ∃ (B : Addr) (v4 : Option V) (ys : List Str), σ = [some (.ref q), some (.ref L), some (.ref B), some xv, v4] ∧ Same HL H' ∧ H' B = some (.lst (ys.map V.str)) ∧ Sts s0 st tl ys)
        ⟨B, _, ys, rfl, fun _ _ h => h, gB', hy⟩ (fun i σ H' _ ⟨_, _, _, _, p, _⟩ => p _ _ hl) ?_ ?_
      · rintro j x σ H1 H2 hj ⟨B, v4, ys, rfl, sm2, gB, hy⟩ ⟨rfl, k0, v0, kq, e0, rfl, hkq⟩
        have hj' : j < st.length := by rw [hsk.len] at hj; exact hj
        obtain ⟨e, he⟩ : ∃ e, st[j]? = some e := ⟨_, List.getElem?_eq_getElem hj'⟩
        obtain ⟨qv, h1, h2⟩ := (hsk'.same sm2).2 j e he
        rw [h1] at e0
        obtain ⟨rfl, rfl⟩ := Prod.mk.inj (Option.some.inj e0)
        have hkq' : H2 kq = some (.tup [.str e.1.1, .str e.1.2]) := hkq
        have em := List.mem_of_getElem? he
        obtain ⟨n1, n2⟩ := names_from (s := s0) (tl := tl) em
        have n3 := (ok.ost e em).2.2.2
        have at0 : ∀ {G : Hp} {R : V → Hp → Prop}, Same H2 G → R (.str e.2.2) G → _ := fun {G R} sg hR => (⟨q, .ref d, rfl, .inl ⟨_, .inr "steps", .inl (sg _ _ (sm2 _ _ hq')), rfl, (pl_steps s0 d t).symm⟩, _, rfl, d, .ref qv, rfl, .inr ⟨kvs, stK e, kq, .inr ⟨od, sg _ _ (sm2 _ _ hl)⟩, rfl, sg _ _ hkq', (valV_at ndk h1).symm⟩, qv, _, 1, .str e.2.2, rfl, rfl, h2.ext sg, rfl, hR⟩ : tOp (rIxT K) (tDGet (tDGet (fun σ H Q => Q (.ref q) H) (tC (V.str (Str.ofString "steps")))) (tVar 4)) (tC (V.int 1)) [some (V.ref q), some (V.ref L), some (V.ref B), some xv, some (.ref kq)] G R)
        refine ⟨_, rfl, kq, _, 0, .str e.1.1, rfl, rfl, SqT.of hkq', rfl, _, rfl, B, _, rfl, .inl (SqL.of gB), rfl, flatS ys, _, rfl, ?_⟩
        refine ite2 (fun c1 => ?_) (fun c1 => ?_)
        · refine ⟨_, rfl, at0 (fun _ _ h => h) ⟨_, rfl, B, _, rfl, .inl (SqL.of gB), rfl, flatS ys, _, rfl, ?_⟩⟩
          refine ite2 (fun c2 => ?_) (fun c2 => ?_)
          · have nm : e.2.2 ∉ ys := by
              have c3 : (!inV (.str e.2.2) (ys.map V.str)) = true := c2
              rw [inV_strs] at c3
              simpa using c3
            refine ⟨_, rfl, _, rfl, at0 (fun _ _ h => h) ⟨(by show 1 ≤ sizeLine; decide), fun l1 hl1 => ?_⟩⟩
            have q5 : Same H2 (upd H2 l1 (.lst [.str e.2.2])) := Same.new hl1
            have n5 : upd H2 l1 (.lst [.str e.2.2]) l1 = some (.lst [.str e.2.2]) := upd_same
            generalize upd H2 l1 (.lst [.str e.2.2]) = H5 at q5 n5
            refine ⟨B, l1, _, _, rfl, rfl, q5 _ _ gB, n5, ?_, fun C5 hC5 => ?_⟩
            · have := hy.le ok
              rw [List.length_map]
              exact Nat.le_trans (show _ ≤ 7 by simp; omega) (by decide)
            refine ⟨C5, _, ys ++ [e.2.2], rfl, (sm2.trans q5).trans (Same.new hC5), ?_, hy.snoc nm n2 n3⟩
            rw [upd_same, List.map_append]
            rfl
          · exact ⟨B, _, ys, rfl, sm2, gB, hy⟩
        · exact iteF ⟨B, _, ys, rfl, sm2, gB, hy⟩
      · rintro σ H' ⟨B, v4, ys, rfl, sm2, gB, hy⟩
        refine ⟨sm2 _ _ hl, B, _, _, ys, rfl, sm.trans (unlock_same (u' := .frz od (.dT kvs)) hd (by rw [hHL]; exact sm2)), upd_oth ?_ gB, hy⟩
        exact fun z => by rw [z, sm2 _ _ hl] at gB; cases gB
    · rintro σ H' ⟨B, v3, v4, ys, rfl, sm, gB, hy⟩
      exact ⟨_, rfl, k ys B H' hy sm gB⟩
end
end KC
namespace KC
open PySem L2 PyProof.Rows
/-- the scope of the outer comprehension of _law_useful -/
def scUse : Scope := { kind := ScopeKind.function, names := [(Str.ofString ".0", NameKind.local), (Str.ofString "_law_state", NameKind.local), (Str.ofString "_law_behind", NameKind.globalImplicit), (Str.ofString "str", NameKind.globalImplicit), (Str.ofString "_law_plan_here", NameKind.cell)], isGenerator := false, isCoroutine := false }
theorem Sts.one {s x : Str} {st : List StE} {tl : List (Str × Str)} (m : x ∈ namesOf s st tl) (n : isName x = true) : Sts s st tl [x] where
  nd := by simp
  mem := fun y hy => by rw [List.mem_singleton.mp hy]; exact m
  nm := fun y hy => by rw [List.mem_singleton.mp hy]; exact n
section
variable {P : Program} {w : World} {K : PySem.W.Frag} {mg : Str → Option Value} {base : Heap}
def spUseful (K : PySem.W.Frag) : Sp := fun vs H Q _ => ∃ (q : Addr) (s : Str) (st : List StE) (tl : List (Str × Str)), vs = [.ref q] ∧ PlAt K H q s st tl ∧ OkParts s st tl ∧
  ∀ (ys : List Str) (D : Addr) H', Same H H' → H' D = some (.lst (ys.map V.str)) → Q (.ref D) H'
theorem kp_useful (T : Txt K mg) : Kf P w K mg base 2 "_law_useful" ["_law_plan_here"] (spUseful K) := by
  refine T.d_luseful.okF sc_luseful (fun vs H Q E h => ?_) (fun f cdv A outer s H vs Q E hA hr h => ?_)
  · obtain ⟨q, s, st, tl, rfl, _⟩ := h
    rfl
  · obtain ⟨q, s0, st, tl, rfl, pl, ok, k⟩ := h
    refine ⟨_, (pss_cons (ps_set (i := 1) sc_luseful.nd rfl (Or.inl rfl) (pe_kf (kp_behind T) hA hr (by rfl) (pa_cons (pv 0) (pa_cons (pe_lst (pa_cons (pe_dget (hu_of hr) (pv 0) (pe_str) (fun _ _ => rfl)) pa_nil)) pa_nil))))
 (pss_one (ps_ret (pe_callB cr_sortedS (by rfl) (T.nb _ (by decide)) (by decide +kernel) (pa_cons (pe_lc (own := [("_law_state", 2)]) (g := gName 2) rfl sc_luseful.nd (pi_list (pv 1)) (blkOk_by (N := n_luseful) (sc := defScope s_luseful) (by decide +kernel)) (fun _ _ _ _ _ => pg_name (i := 2) sc_luseful.nd rfl (Or.inl rfl)) (fun _ _ _ _ _ => (pts_one (pt_cmpR (op_neD hr.units : OpR _ _ (rNeD K)) (by
      refine pe_lc (own := [("_law_one", 3)]) (g := gName 3) (wi := iList K (tCall (spBehind K) [] E0 (tCons (tVar 0) (tCons (tLst (tCons (tVar 2) tNil)) tNil)))) (tt := tB (tDIn (tVar 3) (tDGet (tVar 0) (tC (.str "tails"))))) (te := tVar 3) rfl sc_luseful.nd ?q1 (blkOk_by (N := n_luseful) (sc := scUse) (by decide +kernel)) ?q2 ?q3 ?q4
      case q1 => exact pi_list (pe_kf (kp_behind T) hA hr (by rfl) (pa_cons (pv 0) (pa_cons (pe_lst (pa_cons (pv 2) pa_nil)) pa_nil)))
      case q2 => exact (fun _ _ _ _ _ => pg_name (i := 3) sc_luseful.nd rfl (Or.inl rfl))
      case q3 => exact (fun _ _ _ _ _ => (pts_one (pt_cmp (pc_din (hu_of hr) (pv 3) (pe_dget (hu_of hr) (pv 0) (pe_str) (fun _ _ => rfl))))))
      case q4 => exact (fun _ _ _ _ _ => (pv 3))) (pe_lst pa_nil) (nomark _)))) (fun _ _ _ _ _ => (pe_callTy SkE.call_str_str (by rfl) (T.nb _ (by decide)) (by decide +kernel) (pa_cons (pv 2) pa_nil)))) pa_nil))))), ?_⟩
    obtain ⟨d, t, hq, hst, ht, nd⟩ := id pl
    refine ⟨_, rfl, _, rfl, q, .str s0, rfl, .inl ⟨_, .inr "start", .inl hq, rfl, (pl_start s0 d t).symm⟩, (by show 1 ≤ sizeLine; decide), fun A1 hA1 => ?_⟩
    have q1 : Same H (upd H A1 (.lst [.str s0])) := Same.new hA1
    have g1 : upd H A1 (.lst [.str s0]) A1 = some (.lst (([s0] : List Str).map V.str)) := upd_same
    generalize upd H A1 (.lst [.str s0]) = H1 at q1 g1
    refine ⟨q, A1, s0, st, tl, [s0], rfl, pl.same q1, ok, g1, Sts.one (names_start s0 st tl) ok.os, fun ys D H2 hy s2 gD => ?_⟩
    have s02 := q1.trans s2
    refine ⟨_, rfl, D, rfl, ⟨_, SqL.of gD⟩, fun L hL => ?_⟩
    have ly := hy.le ok
    refine lc_it (walk_list (K := K) (a := D) (xs := ys.map V.str)) (fun i H' => Same H2 H' ∧ ∃ xs : List Str, H' L = some (.lst (xs.map V.str)) ∧ xs.length ≤ i) ⟨Same.new hL, [], upd_same, Nat.le_refl _⟩ (fun i H' _ p => SqL.of (p.1 _ _ gD)) ?_ ?_
    · rintro j x G0 G1 hj ⟨sm, xs, gL, lx⟩ ⟨rfl, hx⟩
      obtain ⟨y, hm, rfl⟩ : ∃ y ∈ ys, V.str y = x := by
        rw [List.getElem?_map] at hx
        cases e : ys[j]? with
        | none => rw [e] at hx; cases hx
        | some y =>
          rw [e] at hx
          exact ⟨y, List.mem_of_getElem? e, Option.some.inj hx⟩
      refine ⟨rfl, ?_⟩
      refine ⟨_, rfl, _, rfl, (by show 1 ≤ sizeLine; decide), fun A2 hA2 => ?_⟩
      have q3 : Same G1 (upd G1 A2 (.lst [.str y])) := Same.new hA2
      have g3 : upd G1 A2 (.lst [.str y]) A2 = some (.lst (([y] : List Str).map V.str)) := upd_same
      generalize upd G1 A2 (.lst [.str y]) = G2 at q3 g3
      refine ⟨q, A2, s0, st, tl, [y], rfl, pl.same (s02.trans (sm.trans q3)), ok, g3, Sts.one (hy.mem y hm) (hy.nm y hm), fun zs D2 G3 hz s3 gD2 => ?_⟩
      have lz := hz.le ok
      have s13 := q3.trans s3
      have gL3 := s13 _ _ gL
      refine ⟨D2, rfl, ⟨_, SqL.of gD2⟩, fun M hM => ?_⟩
      refine lc_it (walk_list (K := K) (a := D2) (xs := zs.map V.str)) (fun i H' => Same G3 H' ∧ ∃ us : List Str, H' M = some (.lst (us.map V.str)) ∧ us.length ≤ i ∧ ∀ u ∈ us, isName u = true) ⟨Same.new hM, [], upd_same, Nat.le_refl _, fun u hu => by cases hu⟩ (fun i H' _ p => SqL.of (p.1 _ _ gD2)) ?_ ?_
      · rintro n v G4 G5 hn ⟨sm4, us, gM, lu, hu⟩ ⟨rfl, hv⟩
        obtain ⟨z, hmz, rfl⟩ : ∃ z ∈ zs, V.str z = v := by
          rw [List.getElem?_map] at hv
          cases e : zs[n]? with
          | none => rw [e] at hv; cases hv
          | some z =>
            rw [e] at hv
            exact ⟨z, List.mem_of_getElem? e, Option.some.inj hv⟩
        have hn6 : n < 6 := by
          rw [List.length_map] at hn
          omega
        refine ⟨rfl, ?_⟩
        obtain ⟨d, t, hq, hst, ht, nd⟩ := id (pl.same (s02.trans (sm.trans (s13.trans sm4))))
        refine ⟨_, rfl, _, rfl, q, .ref t, rfl, .inl ⟨_, .inr "tails", .inl hq, rfl, (pl_tails s0 d t).symm⟩, t, _, rfl, .inl ⟨_, .inr z, .inl ht, rfl, rfl⟩, _, rfl, ?_⟩
        refine ite2 (fun c1 => ?_) (fun c1 => ?_)
        · have gM2 : upd G5 M (.lst (us.map V.str ++ [.str z])) M = some (.lst ((us ++ [z]).map V.str)) := by
            rw [upd_same, List.map_append]
            rfl
          have hM0 : G3 M = none := hM
          refine ⟨_, rfl, us.map V.str, gM, ?_, fun b o eb => upd_oth (fun z => by rw [z, hM0] at eb; cases eb) (sm4 _ _ eb), us ++ [z], gM2, ?_, ?_⟩
          · rw [List.length_map]
            exact Nat.lt_of_lt_of_le (show us.length < 7 by omega) (by decide)
          · rw [List.length_append]
            exact Nat.add_le_add_right lu 1
          · intro u hu2
            rcases List.mem_append.mp hu2 with h | h
            · exact hu u h
            · rw [List.mem_singleton.mp h]
              exact hz.nm z hmz
        · exact ⟨sm4, us, gM, Nat.le_trans lu (Nat.le_succ _), hu⟩
      · rintro G4 ⟨sm4, us, gM, lu, hu⟩
        refine ⟨(by show 0 ≤ sizeLine; decide), fun N hN => ?_⟩
        have s5 : Same G4 (upd G4 N (.lst [])) := Same.new hN
        have gN : upd G4 N (.lst []) N = some (.lst []) := upd_same
        generalize upd G4 N (.lst []) = G5 at s5 gN
        have gL5 := s5 _ _ (sm4 _ _ gL3)
        have s25 : Same H2 G5 := sm.trans (s13.trans (sm4.trans s5))
        refine ⟨_, _, .lst (SqL.of (s5 _ _ gM)) (dp_strs us), .lst (SqL.of gN) .nil, shaped_lst fun u h => ok_let (hu u h), by decide +kernel, _, rfl, ?_⟩
        refine ite2 (fun c1 => ?_) (fun c1 => ?_)
        · have hL0 : H2 L = none := hL
          refine ⟨_, rfl, y, rfl, xs.map V.str, gL5, ?_, fun b o eb => upd_oth (fun z => by rw [z, hL0] at eb; cases eb) (s25 _ _ eb), xs ++ [y], ?_, ?_⟩
          · rw [List.length_map] at hj ⊢
            exact Nat.lt_of_lt_of_le (show xs.length < 7 by omega) (by decide)
          · rw [upd_same, List.map_append]
            rfl
          · rw [List.length_append]
            exact Nat.add_le_add_right lx 1
        · exact ⟨s25, xs, gL5, Nat.le_trans lx (Nat.le_succ _)⟩
    · rintro G ⟨sm, xs, gL, lx⟩
      rw [List.length_map] at lx
      exact ⟨L, xs, rfl, SqL.of gL, by omega, fun ys' p' _ _ hp => k ys' p' _ ((s02.trans sm).trans (Same.new hp)) upd_same⟩
end
end KC
namespace KC
open PySem L2 PyProof.Rows
theorem tail_draw {K : PySem.W.Frag} {σ : L2.St} {H : Hp} {p c q : Addr} {ns : List Int} {n : Nat} {s s' : Str} {st : List StE} {tl : List (Str × Str)} {t u : TS} {D : Ends} (h0 : σ[0]? = some (some (.ref p))) (h1 : σ[1]? = some (some (.ref q))) (h6 : σ[6]? = some (some (.str s')))
    (pl : PlAt K H q s st tl) (hp : PenAt H p c ns n) (hlen : ns.length ≤ 63) (hn : n < 999000) (kt : ∀ G, PenAt G p c ns (n + 1) → But p H G → t D σ G) (ku : ∀ G, PenAt G p c ns (n + 1) → But p H G → u D σ G) :
    tIfS (tAnd (tB (tDIn (tVar 6) (tDGet (tVar 1) (tC (V.str (Str.ofString "tails")))))) (tTest (tOp rEq (tCall spDraw [] E0 (tCons (tVar 0) (tCons (tC (V.int 3)) tNil))) (tC (V.int 0))))) t u D σ H := by
  obtain ⟨d, tt, hq, hst, ht, nd⟩ := id pl
  refine ⟨_, h6, _, h1, q, .ref tt, rfl, .inl ⟨_, .inr "tails", .inl hq, rfl, (pl_tails s d tt).symm⟩, tt, _, rfl, .inl ⟨_, .inr s', .inl ht, rfl, rfl⟩, _, rfl, ?_⟩
  refine ite2 (fun c1 => ?_) (fun c1 => ?_)
  · refine ⟨_, h0, p, c, _, ns, _, rfl, hp, hlen, by decide, by decide, by omega, fun r G r0 r1 gp b => ?_⟩
    refine ⟨rfl, _, rfl, ?_⟩
    exact ite2 (fun _ => kt G gp b) (fun _ => ku G gp b)
  · exact iteF (ku H (hp.mono (by omega)) (But.of_same fun _ _ h => h))
theorem step_some {st : List StE} {e : StE} (he : e ∈ st) : (stepOf st e.1.1 e.1.2).isSome = true := by
  unfold stepOf
  rw [Option.isSome_map]
  cases h : st.find? fun x => decide (x.1 = (e.1.1, e.1.2)) with
  | some _ => rfl
  | none =>
    have := List.find?_eq_none.mp h e he
    simp at this
section
variable {P : Program} {w : World} {K : PySem.W.Frag} {mg : Str → Option Value} {base : Heap}
def spHome (K : PySem.W.Frag) : Sp := fun vs H Q _ => ∃ (p c q : Addr) (ns : List Int) (n : Nat) (s : Str) (st : List StE) (tl : List (Str × Str)) (z : Str), vs = [.ref p, .ref q, .str z] ∧ PenAt H p c ns n ∧ ns.length ≤ 63 ∧ n < 900000 ∧ PlAt K H q s st tl ∧ OkParts s st tl ∧ st.length ≤ 30 ∧ isTxt z = true ∧ z.length ≤ 6 ∧
  ∀ (v : V) (H' : Hp), (v = .non ∨ ∃ y, v = .str y ∧ isTxt y = true ∧ y.length ≤ 66) → PenAt H' p c ns (n + 200) → But p H H' → Q v H'
theorem kp_home (T : Txt K mg) : Kf P w K mg base 3 "_law_home" ["_law_pen_here", "_law_plan_here", "_law_text_here"] (spHome K) := by
  refine T.d_lhome.okF sc_lhome (fun vs H Q E h => ?_) (fun f cdv A outer s H vs Q E hA hr h => ?_)
  · obtain ⟨p, c, q, ns, n, s, st, tl, z, rfl, _⟩ := h
    rfl
  · obtain ⟨p, c, q, ns, n, s0, st, tl, z0, rfl, hp, hlen, hn, pl, ok, l30, hT, hz6, k⟩ := h
    refine ⟨_, (pss_cons (ps_asg (pe_tup (pa_cons (pe_kf (kp_useful T) hA hr (by rfl) (pa_cons (pv 1) pa_nil)) (pa_cons (pe_kf (kp_run T) hA hr (by rfl) (pa_cons (pv 1) (pa_cons (pv 2) pa_nil))) pa_nil))) (pg_tup rfl (pgs_cons (pg_name (i := 3) sc_lhome.nd rfl (Or.inr rfl)) (pgs_cons (pg_name (i := 4) sc_lhome.nd rfl (Or.inl rfl)) pgs_nil))))
 (pss_cons (ps_if (PW.pt (pw_or (pt_cmpR op_le (pe_callB call_len (by rfl) (T.nb _ (by decide)) PySem.boot_len (pa_cons (pv 4) pa_nil)) (pe_callB call_len (by rfl) (T.nb _ (by decide)) PySem.boot_len (pa_cons (pv 2) pa_nil)) (nomark _)) (pw_or1 (pt_cmpR (op_notIn_seq : OpR _ _ (rIn K true)) (pe_ix (ix_list : IxR _ (rIxL K)) (pv 4) (pe_un un_neg (pe_int)) (fun _ _ => rfl)) (pv 3) rfl))))
 (pss_one (ps_ret (pe_non))) pss_nil)
 (pss_cons (ps_asg (pe_tup (pa_cons (pv 2) (pa_cons (pe_ix (ix_list : IxR _ (rIxL K)) (pv 4) (pe_un un_neg (pe_int)) (fun _ _ => rfl)) pa_nil))) (pg_tup rfl (pgs_cons (pg_name (i := 5) sc_lhome.nd rfl (Or.inl rfl)) (pgs_cons (pg_name (i := 6) sc_lhome.nd rfl (Or.inr rfl)) pgs_nil))))
 (pss_cons (ps_for PassesOwn.never rfl (pi_range1 (by rfl) (T.nb _ (by decide)) (pa_cons (pe_int) pa_nil)) (pg_name (i := 7) sc_lhome.nd rfl (Or.inl rfl))
 (pss_cons (ps_if (PW.pt (pw_and (pt_cmp (pc_din (hu_of hr) (pv 6) (pe_dget (hu_of hr) (pv 1) (pe_str) (fun _ _ => rfl)))) (pw_and1 (pt_cmpR op_eq (pe_kf (kp_draw T) hA hr (by rfl) (pa_cons (pv 0) (pa_cons (pe_int) pa_nil))) (pe_int) (nomark _)))))
 (pss_one (ps_ret (pv 5))) pss_nil)
 (pss_cons (ps_lock (ps_setLc (i := 8) (own := [("_law_key", 10)]) (g := gName 10) rfl sc_lhome.nd rfl rfl (sw_true rfl rfl rfl (by decide +kernel)) (pi_keys (pe_dget (hu_of hr) (pv 1) (pe_str) (fun _ _ => rfl))) (blkOk_by (N := n_lhome) (sc := defScope s_lhome) (by decide +kernel)) (fun _ _ _ _ _ => pg_name (i := 10) sc_lhome.nd rfl (Or.inl rfl)) (fun _ _ _ _ _ => (pts_one (PW.pt (pw_and (pt_cmpR op_eq (pe_ix (ix_tup : IxR _ (rIxT K)) (pv 10) (pe_int) (fun _ _ => rfl)) (pv 6) (nomark _)) (pw_and1 (pt_cmpR (op_in_seq : OpR _ _ (rIn K false)) (pe_ix (ix_tup : IxR _ (rIxT K)) (pe_dget (hu_of hr) (pe_dget (hu_of hr) (pv 1) (pe_str) (fun _ _ => rfl)) (pv 10) (fun _ _ => rfl)) (pe_int) (fun _ _ => rfl)) (pv 3) rfl)))))) (fun _ _ _ _ _ => (pe_ix (ix_tup : IxR _ (rIxT K)) (pv 10) (pe_int) (fun _ _ => rfl)))))
 (pss_cons (ps_if (pt_cmpR (op_eqD hr.units) (pv 8) (pe_lst pa_nil) (nomark _))
 (pss_one (ps_ret (pv 5))) pss_nil)
 (pss_cons (ps_set (i := 9) sc_lhome.nd rfl (Or.inl rfl) (pe_kf (kp_pick T) hA hr (by rfl) (pa_cons (pv 0) (pa_cons (pv 8) pa_nil))))
 (pss_one (ps_asg (pe_tup (pa_cons (pe_op op_add_str (pv 5) (pv 9)) (pa_cons (pe_ix (ix_tup : IxR _ (rIxT K)) (pe_dget (hu_of hr) (pe_dget (hu_of hr) (pv 1) (pe_str) (fun _ _ => rfl)) (pe_tup (pa_cons (pv 6) (pa_cons (pv 9) pa_nil))) (fun _ _ => rfl)) (pe_int) (fun _ _ => rfl)) pa_nil))) (pg_tup rfl (pgs_cons (pg_name (i := 5) sc_lhome.nd rfl (Or.inl rfl)) (pgs_cons (pg_name (i := 6) sc_lhome.nd rfl (Or.inr rfl)) pgs_nil))))))))))
 (pss_one (ps_ret (pe_ifExp (pt_cmp (pc_din (hu_of hr) (pv 6) (pe_dget (hu_of hr) (pv 1) (pe_str) (fun _ _ => rfl)))) (pv 5) (pe_non)))))))), ?_⟩
    refine ⟨_, rfl, q, s0, st, tl, rfl, pl, ok, fun good GD H1 s1 gG => ?_⟩
    refine ⟨_, rfl, _, rfl, q, z0, s0, st, tl, rfl, pl.same s1, ok, hT, fun i0 w1 e0 SL H2 s2 gS lw wk fin => ?_⟩
    refine ⟨(by show 2 ≤ sizeLine; decide), fun A1 hA1 => ⟨A1, _, rfl, SqT.of upd_same, rfl, _, _, rfl, _, _, rfl, rfl, ?_⟩⟩
    have s3 : Same H (upd H2 A1 (.tup [.ref GD, .ref SL])) := s1.trans (s2.trans (Same.new hA1))
    have gG := upd_new (u := .tup [.ref GD, .ref SL]) hA1 (s2 _ _ gG)
    have gS := upd_new (u := .tup [.ref GD, .ref SL]) hA1 gS
    generalize upd H2 A1 (.tup [.ref GD, .ref SL]) = H3 at s3 gG gS
    have l6 : z0.length ≤ sizeLine := Nat.le_trans hz6 (by decide)
    have none_ : Q .non H3 := k .non H3 (.inl rfl) ((hp.same s3).mono (by omega)) (But.of_same s3)
    have nGp : GD ≠ p := fun z => by
      obtain ⟨t, g, a, _⟩ := hp.same s3
      rw [z, a] at gG
      have := HO.lst.inj (Option.some.inj gG)
      cases good with
      | nil => cases this
      | cons a b => cases this
    refine ⟨_, rfl, .ref SL, _, rfl, len_lst gS, _, rfl, .str z0, _, rfl, ⟨l6, rfl⟩, _, _, rfl, rfl, _, rfl, ?_⟩
    refine ite2 (fun c1 => iteT none_) (fun c1 => ?_)
    refine ⟨_, rfl, _, rfl, SL, _, -1, .str e0, rfl, rfl, SqL.of gS, atI_lastS wk.last, _, rfl, GD, _, rfl, .inl (SqL.of gG), rfl, flatS good, _, rfl, ?_⟩
    refine ite2 (fun c2 => none_) (fun c2 => ?_)
    refine ⟨_, rfl, _, rfl, _, rfl, SL, _, -1, .str e0, rfl, rfl, SqL.of gS, atI_lastS wk.last, (by show 2 ≤ sizeLine; decide), fun A2 hA2 => ⟨A2, _, rfl, SqT.of upd_same, rfl, _, _, rfl, _, _, rfl, rfl, ?_⟩⟩
    have s4 : Same H (upd H3 A2 (.tup [.str z0, .str e0])) := s3.trans (Same.new hA2)
    have gG := upd_new (u := .tup [.str z0, .str e0]) hA2 gG
    have b4 : But p H (upd H3 A2 (.tup [.str z0, .str e0])) := But.of_same s4
    have hp4 := hp.same s4
    have pl4 := pl.same s4
    generalize upd H3 A2 (.tup [.str z0, .str e0]) = H4 at s4 gG b4 hp4 pl4
    refine ⟨_, rfl, by decide, by decide, ?_⟩
    refine for_it (walk_range (lo := 0) (n := 60)) (fun i σ H' => ∃ (z s' : Str) (v7 v8 v9 : Option V), σ = [some (.ref p), some (.ref q), some (.str z0), some (.ref GD), some (.ref SL), some (.str z), some (.str s'), v7, v8, v9, none] ∧
      isTxt z = true ∧ z.length ≤ 6 + i ∧ PenAt H' p c ns (n + 2 * i) ∧ PlAt K H' q s0 st tl ∧ But p H H' ∧ H' GD = some (.lst (good.map V.str)))
      ⟨z0, e0, _, _, _, rfl, hT, hz6, hp4, pl4, b4, gG⟩ (fun _ _ _ _ _ => True.intro) ?_ ?_
    · rintro i xv σ G0 G hi ⟨z, s', v7, v8, v9, rfl, hz, zl, gp, pl, gb, gG⟩ ⟨rfl, ex⟩
      have ret : ∀ G2 m, PenAt G2 p c ns m → m ≤ n + 200 → But p H G2 → Q (.str z) G2 := fun G2 m a b d => k (.str z) G2 (.inr ⟨z, rfl, hz, by omega⟩) (a.mono b) d
      refine tail_draw (K := K) rfl rfl rfl pl gp hlen (by omega) (fun G2 gp2 b2 => ⟨_, rfl, ret G2 _ gp2 (by omega) (But.tr gb b2)⟩) (fun G2 gp2 b2 => ?_)
      have pl := pl.but gp.lst b2
      have gb := But.tr gb b2
      have gG := b2 GD nGp _ gG
      obtain ⟨d, t, hq, hst, ht, nd⟩ := id pl
      obtain ⟨kvs, hd, hsk, ndk⟩ := id hst
      refine ⟨d, _, hd, trivial, fun od => ?_⟩
      have hl : upd G2 d (.frz od (.dT kvs)) d = some (.frz od (.dT kvs)) := upd_same
      have hsk' := hsk.lock (o := od) hd
      have hqd : q ≠ d := fun z => by rw [z, hd] at hq; cases hq
      have hGd : GD ≠ d := fun z => by rw [z, hd] at gG; cases gG
      have hq' : upd G2 d (.frz od (.dT kvs)) q = some (.dK (plD s0 d t)) := upd_oth hqd hq
      have gG' : upd G2 d (.frz od (.dT kvs)) GD = some (.lst (good.map V.str)) := upd_oth hGd gG
      generalize hHL : upd G2 d (.frz od (.dT kvs)) = HL at hl hsk' hq' gG'
      refine ⟨_, rfl, q, .ref d, rfl, .inl ⟨_, .inr "steps", .inl hq', rfl, (pl_steps s0 d t).symm⟩, d, od, rfl, .inr ⟨kvs, hl, fun D hD => ?_⟩⟩
      refine lc_it (walk_keysT (d := d) (o := od) (kvs := kvs)) (fun i H' => Same HL H' ∧ ∃ xs : List Str, H' D = some (.lst (xs.map V.str)) ∧ xs.length ≤ i ∧ ∀ x ∈ xs, isLet x = true ∧ (stepOf st s' x).isSome = true) ⟨Same.new hD, [], upd_same, Nat.le_refl _, fun x hx => (by cases hx)⟩ (fun i H' _ p => p.1 _ _ hl) ?_ ?_
      · rintro j x H1 H2 hj ⟨sm, xs, gD, lx, hxs⟩ ⟨rfl, k0, v0, kq, e0, rfl, hkq⟩
        have hj' : j < st.length := by rw [hsk.len] at hj; exact hj
        obtain ⟨e, he⟩ : ∃ e, st[j]? = some e := ⟨_, List.getElem?_eq_getElem hj'⟩
        obtain ⟨qv, h1, h2⟩ := (hsk'.same sm).2 j e he
        rw [h1] at e0
        obtain ⟨rfl, rfl⟩ := Prod.mk.inj (Option.some.inj e0)
        have hkq' : H2 kq = some (.tup [.str e.1.1, .str e.1.2]) := hkq
        have em := List.mem_of_getElem? he
        have hle := (ok.ost e em).2.1
        have keep : Same HL H2 ∧ ∃ xs : List Str, H2 D = some (.lst (xs.map V.str)) ∧ xs.length ≤ j + 1 ∧ ∀ x ∈ xs, isLet x = true ∧ (stepOf st s' x).isSome = true := ⟨sm, xs, gD, by omega, hxs⟩
        refine ⟨rfl, ?_⟩
        refine ⟨_, rfl, kq, _, 0, .str e.1.1, rfl, rfl, SqT.of hkq', rfl, _, rfl, rfl, _, rfl, ?_⟩
        refine ite2 (fun c1 => ?_) (fun c1 => iteF keep)
        have es : e.1.1 = s' := V.str.inj (of_decide_eq_true c1)
        refine ⟨_, rfl, q, .ref d, rfl, .inl ⟨_, .inr "steps", .inl (sm _ _ hq'), rfl, (pl_steps s0 d t).symm⟩, _, rfl, d, .ref qv, rfl, .inr ⟨kvs, stK e, kq, .inr ⟨od, sm _ _ hl⟩, rfl, hkq', (valV_at ndk h1).symm⟩, qv, _, 1, .str e.2.2, rfl, rfl, h2, rfl, _, rfl, GD, _, rfl, .inl (SqL.of (sm _ _ gG')), rfl, flatS good, _, rfl, ?_⟩
        refine ite2 (fun c2 => ?_) (fun c2 => keep)
        refine ⟨_, rfl, kq, _, 1, .str e.1.2, rfl, rfl, SqT.of hkq', rfl, xs.map V.str, gD, ?_, ?_, xs ++ [e.1.2], ?_, ?_, ?_⟩
        · rw [List.length_map]
          exact Nat.lt_of_lt_of_le (show xs.length < 400 by omega) (by decide)
        · exact fun b o eb => upd_oth (fun z => by rw [z, hD] at eb; cases eb) (sm _ _ eb)
        · rw [upd_same, List.map_append]
          rfl
        · rw [List.length_append]
          show xs.length + 1 ≤ j + 1
          omega
        · intro y hy
          rcases List.mem_append.mp hy with h | h
          · exact hxs y h
          · rw [List.mem_singleton.mp h]
            refine ⟨hle, ?_⟩
            rw [← es]
            exact step_some em
      · rintro H1 ⟨sm, xs, gD, lx, hxs⟩
        have nDd : D ≠ d := fun z => by rw [z, hl] at hD; cases hD
        refine ⟨sm _ _ hl, ?_⟩
        have sU : Same G2 (upd H1 d (.dT kvs)) := unlock_same (u' := .frz od (.dT kvs)) hd (by rw [hHL]; exact sm)
        have gDU : upd H1 d (.dT kvs) D = some (.lst (xs.map V.str)) := upd_oth nDd gD
        generalize upd H1 d (.dT kvs) = GU at sU gDU
        have nDp : D ≠ p := by
          intro z
          obtain ⟨ys, ey⟩ := gp2.lst
          have : HL p = some (.lst ys) := by
            rw [← hHL]
            exact upd_oth (fun z => by rw [z, hd] at ey; cases ey) ey
          rw [z, this] at hD
          cases hD
        have gpU := gp2.same sU
        have plU := pl.same sU
        have gbU := But.tr gb (But.of_same sU)
        have lx30 : xs.length ≤ 30 := by rw [hsk.len] at lx; omega
        refine ⟨_, rfl, (by show 0 ≤ sizeLine; decide), fun L0 hL0 => ?_⟩
        have s5 : Same GU (upd GU L0 (.lst [])) := Same.new hL0
        have gL0 : upd GU L0 (.lst []) L0 = some (.lst []) := upd_same
        generalize upd GU L0 (.lst []) = G3 at s5 gL0
        have gD3 := s5 _ _ gDU
        refine ⟨_, _, .lst (SqL.of gD3) (dp_strs xs), .lst (SqL.of gL0) .nil, shaped_lst fun y hy => ok_let (hxs y hy).1, rfl, _, rfl, ?_⟩
        rw [eqv_nilS]
        have gp3 := gpU.same s5
        have gb3 := But.tr gbU (But.of_same s5)
        have pl3 := plU.same s5
        have gG3 : G3 GD = some (.lst (good.map V.str)) := s5 _ _ (sU _ _ gG)
        cases hx : xs with
        | nil => exact iteT ⟨_, rfl, ret G3 _ gp3 (by omega) gb3⟩
        | cons x0 xr =>
          refine iteF ?_
          refine ⟨_, rfl, _, rfl, p, c, D, _, ns, _, rfl, gp3, hlen, gD3, nDp, ?_, ?_, by omega, fun v G4 hv gp4 b4 => ?_⟩
          · rw [List.length_map, hx]
            simp
          · rw [List.length_map]
            omega
          obtain ⟨y, hy, rfl⟩ := List.mem_map.mp hv
          obtain ⟨hy1, hy2⟩ := hxs y hy
          have pl4 := pl3.but gp3.lst b4
          have gb4 := But.tr gb3 b4
          have gG4 := b4 GD nGp _ gG3
          obtain ⟨hz2, zl2⟩ := txt_snoc hz hy1 (by omega)
          have ly : y.length ≤ 1 := okL_le hy1
          obtain ⟨d2, t2, hq2, ⟨kv2, hd2, hsk2, ndk2⟩, _, _⟩ := id pl4
          refine ⟨_, rfl, _, rfl, z, y, rfl, rfl, Nat.le_trans (show z.length + y.length ≤ 100 by omega) (by decide), _, rfl, q, .ref d2, rfl, .inl ⟨_, .inr "steps", .inl hq2, rfl, (pl_steps s0 d2 t2).symm⟩, _, rfl, _, rfl, (by show 2 ≤ sizeLine; decide), fun kt2 hkt2 => ?_⟩
          have q4 : Same G4 (upd G4 kt2 (.tup [.str s', .str y])) := Same.new hkt2
          have hk2 : upd G4 kt2 (.tup [.str s', .str y]) kt2 = some (.tup [.str s', .str y]) := upd_same
          generalize upd G4 kt2 (.tup [.str s', .str y]) = G5 at q4 hk2
          rcases (hsk2.same q4).get ndk2 s' y with ⟨e1, e2⟩ | ⟨a, to, qa, e1, e2, e3⟩
          · rw [e1] at hy2
            cases hy2
          refine ⟨d2, .ref qa, rfl, .inr ⟨kv2, [.inr s', .inr y], kt2, .inl (q4 _ _ hd2), rfl, hk2, e2.symm⟩, ?_⟩
          refine ⟨qa, _, 1, .str to, rfl, rfl, e3, rfl, (by show 2 ≤ sizeLine; decide), fun A3 hA3 => ⟨A3, _, rfl, SqT.of upd_same, rfl, _, _, rfl, _, _, rfl, rfl, ?_⟩⟩
          have q5 := q4.trans (Same.new (u := .tup [.str (z ++ y), .str to]) hA3)
          exact ⟨z ++ y, to, _, _, _, rfl, hz2, by omega, (gp4.same q5).mono (by omega), pl4.same q5, But.tr gb4 (But.of_same q5), q5 _ _ gG4⟩
    · rintro σ G ⟨z, s', v7, v8, v9, rfl, hz, zl, gp, pl, gb, gG⟩
      obtain ⟨d, tt, hq, hst, ht, nd⟩ := id pl
      refine ⟨_, rfl, _, rfl, q, .ref tt, rfl, .inl ⟨_, .inr "tails", .inl hq, rfl, (pl_tails s0 d tt).symm⟩, tt, _, rfl, .inl ⟨_, .inr s', .inl ht, rfl, rfl⟩, _, rfl, ?_⟩
      refine ite2 (fun c1 => ?_) (fun c1 => ?_)
      · exact ⟨_, rfl, k (.str z) G (.inr ⟨z, rfl, hz, by omega⟩) (gp.mono (by omega)) gb⟩
      · exact k .non G (.inl rfl) (gp.mono (by omega)) gb
end
end KC
namespace KC
open PySem L2 PyProof.Rows
/-- the errors that the law tells apart -/
def hNames : List Str := ["NoStep", "NoTail", "BadWord", "BadNumber", "BadConverter", "NoText"]
structure TxH (K : PySem.W.Frag) (mg : Str → Option Value) : Prop where
  T : Txt K mg
  mgh : mg "HeadError" = some (.ref (adr mg "HeadError"))
  mgc : ∀ x ∈ hNames, mg x = some (.ref (adr mg x))
  cl : ∀ x ∈ hNames, XCl K (adr mg x)
  na : ∀ x ∈ hNames, ∀ f ∈ (["value", "at", "state", "part"] : List Str), PySem.W.findIn K (.ref (adr mg x)) f = some none
  kit : ∀ x ∈ hNames, ∀ y ∈ hNames, PySem.W.kitOne K (.ref (adr mg x)) (.ref (adr mg y)) = some (decide (x = y))
  ex : ∀ x ∈ hNames, PySem.W.exmOne K (.ref (adr mg x)) (.ref (adr mg "HeadError")) = some true
theorem TxH.kit2 {K : PySem.W.Frag} {mg : Str → Option Value} (TH : TxH K mg) {x y z : Str} (hx : x ∈ hNames) (hy : y ∈ hNames) (hz : z ∈ hNames) : PySem.W.kitAny K (.ref (adr mg x)) [.ref (adr mg y), .ref (adr mg z)] = some (decide (x = y) || decide (x = z)) := by
  unfold PySem.W.kitAny
  rw [TH.kit x hx y hy]
  cases decide (x = y) with
  | true => rfl
  | false =>
    unfold PySem.W.kitAny
    rw [TH.kit x hx z hz]
    cases decide (x = z) <;> rfl
/-- what is shown of v wherever the heap goes -/
def ShwE (K : PySem.W.Frag) (H : Hp) (v : V) (t : Str) : Prop := ∀ H', Same H H' → Shw K H' v t
/-- a new tuple -/
def OutV (xs : List V) (H : Hp) (Q : VK) : Prop := ∀ T H', H T = none → Same H H' → H' T = some (.tup xs) → Q (.ref T) H'
/-- what the law makes of an error -/
def EEh (K : PySem.W.Frag) (mg : Str → Option Value) (Q : VK) : XK := fun cls d H => ∃ (x : Str) (dd : Addr) (fs : List (Str × V)),
  cls = .ref (adr mg x) ∧ d = some dd ∧ H dd = some (.xd fs) ∧
  ((x = "NoStep" ∧ ∃ v v2, fs.lookup ("at" : Str) = some v ∧ fs.lookup ("state" : Str) = some v2 ∧ OutV [.str "step", v, v2] H Q) ∨
   (x = "NoTail" ∧ ∃ v, fs.lookup ("state" : Str) = some v ∧ OutV [.str "tail", v] H Q) ∨
   (x = "BadNumber" ∧ ∃ v t, fs.lookup ("value" : Str) = some v ∧ ShwE K H v t ∧ OutV [.str "number", .str t] H Q) ∨
   (x = "BadWord" ∧ ∃ v t, fs.lookup ("value" : Str) = some v ∧ ShwE K H v t ∧ OutV [.str "word", .str t] H Q) ∨
   (x = "BadConverter" ∧ ∃ v, fs.lookup ("part" : Str) = some v ∧ OutV [.str "converter", v] H Q))
/-- what hearing a call makes of it -/
def TTh (K : PySem.W.Frag) (mg : Str → Option Value) : (XK → Hp → VK → Prop) → Hp → VK → Prop := fun tl H Q =>
  ∀ (H' : Hp) (R : VK), Same H H' →
    (∀ v H1, (∀ L H2, H1 L = none → Same H1 H2 → H2 L = some (.lst [v]) → Q (.ref L) H2) → R v H1) → tl (EEh K mg Q) H' R
/-- the statements of the first try of a block -/
def tryBody : List Stmt → List Stmt
  | [] => []
  | .Try b _ _ _ _ :: _ => b
  | _ :: r => tryBody r
/-- the try's body -/
def tbH (f c' : Addr) (q : Str) (tl : XK → Hp → VK → Prop) : WX → TS := fun W D σ H => ∃ Ech : XK,
  (∀ cls d σ' H', Ech cls d H' → W cls d σ' H') ∧ σ[0]? = some (some (.ref f)) ∧ H c' = some (LamX.CodeO c' q) ∧
  tl Ech H fun v H1 => D.nx (σ.set 2 (some v)) H1
section
variable {X : Cx} {g : Addr} {cdg : Value} {q : Str}
theorem heard_gives (TH : TxH X.K X.mg) (hA0 : X.A.guards = some []) (hr0 : Room 3 X.A) :
    LamX.GivesTo X n_lheard "_law_heard" (defScope s_lheard) g cdg (defBody s_lheard) "_law_call" q (TTh X.K X.mg) := by
  intro f c' s H Q tl act hc h
  have T := TH.T
  have hA : (cxOf C8.CX0 X.prog X.w X.K X.mg X.base n_lheard "_law_heard" (defScope s_lheard) g cdg X.A X.stack s H C8.E0).nox.A.guards = some [] := hA0
  have hr : Room 2 (cxOf C8.CX0 X.prog X.w X.K X.mg X.base n_lheard "_law_heard" (defScope s_lheard) g cdg X.A X.stack s H C8.E0).nox.A :=
    hr0.deeper (envOfC "_law_heard" (defScope s_lheard) s.heap.objs.size g cdg)
  have hbody : ∀ (W : WX) (pn : List (Addr × Obj)) (xe : Value → Shared → Prop), Takes ((cxOf C8.CX0 X.prog X.w X.K X.mg X.base n_lheard "_law_heard" (defScope s_lheard) g cdg X.A X.stack s H C8.E0).nox.tr pn xe) W →
      PassesOwn (model X.prog X.w) (cxOf C8.CX0 X.prog X.w X.K X.mg X.base n_lheard "_law_heard" (defScope s_lheard) g cdg X.A X.stack s H C8.E0).nox.A (cxOf C8.CX0 X.prog X.w X.K X.mg X.base n_lheard "_law_heard" (defScope s_lheard) g cdg X.A X.stack s H C8.E0).nox.env xe →
      PSs ((cxOf C8.CX0 X.prog X.w X.K X.mg X.base n_lheard "_law_heard" (defScope s_lheard) g cdg X.A X.stack s H C8.E0).nox.tr pn xe) (tryBody (defBody s_lheard)) (tbH f c' q tl W) := by
    intro W pn xe tk _
    refine ⟨fun pins s' σ H' D I h' => ?_⟩
    obtain ⟨Ech, hW, h1, h2, h3⟩ := h'
    have hp := act W pn xe Ech
    exact (pss_one (ps_set (i := 2) sc_lheard.nd rfl (Or.inl rfl) (hp _ _ tk hW))).run pins s' σ H' D I ⟨h1, h2, h3⟩
  refine ⟨_, (pss_cons (ps_asg (pe_tup (pa_cons (pe_non) (pa_cons (pe_non) pa_nil))) (pg_tup rfl (pgs_cons (pg_name (i := 1) sc_lheard.nd rfl (Or.inl rfl)) (pgs_cons (pg_name (i := 2) sc_lheard.nd rfl (Or.inl rfl)) pgs_nil))))
 (pss_cons (ps_try_keep (c := .ref (adr X.mg "HeadError")) (i := 3) (tb := tbH f c' q tl) rfl rfl rfl sc_lheard.nd rfl rfl ⟨by rfl, by decide, .inl TH.mgh⟩ takes0 hbody (fun a oe cls d pn _ _ => (pss_one (ps_set (i := 1) sc_lheard.nd rfl (Or.inl rfl) (pv 3)))))
 (pss_cons (ps_if (pt_cmpR op_isN (pv 1) (pe_non) (nomark _))
 (pss_one (ps_ret (pe_lst (pa_cons (pv 2) pa_nil)))) pss_nil)
 (pss_cons (ps_if (pt_val (pe_callB call_iswT (by rfl) (T.nb _ (by decide)) (by decide +kernel) (pa_cons (pv 1) (pa_cons (pe_tup (pa_cons (pe_glob (v := .ref (adr X.mg "NoStep")) rfl (TH.mgc _ (by decide)) rfl) (pa_cons (pe_glob (v := .ref (adr X.mg "NoTail")) rfl (TH.mgc _ (by decide)) rfl) pa_nil))) pa_nil))))
 (pss_one (ps_ret (pe_ifExp (pt_val (pe_callB call_isw (by rfl) (T.nb _ (by decide)) (by decide +kernel) (pa_cons (pv 1) (pa_cons (pe_glob (v := .ref (adr X.mg "NoStep")) rfl (TH.mgc _ (by decide)) rfl) pa_nil)))) (pe_tup (pa_cons (pe_str) (pa_cons (pe_xw (pv 1)) (pa_cons (pe_xw (pv 1)) pa_nil)))) (pe_tup (pa_cons (pe_str) (pa_cons (pe_xw (pv 1)) pa_nil)))))) pss_nil)
 (pss_cons (ps_if (pt_val (pe_callB call_iswT (by rfl) (T.nb _ (by decide)) (by decide +kernel) (pa_cons (pv 1) (pa_cons (pe_tup (pa_cons (pe_glob (v := .ref (adr X.mg "BadWord")) rfl (TH.mgc _ (by decide)) rfl) (pa_cons (pe_glob (v := .ref (adr X.mg "BadNumber")) rfl (TH.mgc _ (by decide)) rfl) pa_nil))) pa_nil))))
 (pss_one (ps_ret (pe_ifExp (pt_val (pe_callB call_isw (by rfl) (T.nb _ (by decide)) (by decide +kernel) (pa_cons (pv 1) (pa_cons (pe_glob (v := .ref (adr X.mg "BadWord")) rfl (TH.mgc _ (by decide)) rfl) pa_nil)))) (pe_tup (pa_cons (pe_str) (pa_cons (pe_callB (call_reprV hA hr.units) (by rfl) (T.nb _ (by decide)) (by decide +kernel) (pa_cons (pe_xw (pv 1)) pa_nil)) pa_nil))) (pe_tup (pa_cons (pe_str) (pa_cons (pe_callB (call_reprV hA hr.units) (by rfl) (T.nb _ (by decide)) (by decide +kernel) (pa_cons (pe_xw (pv 1)) pa_nil)) pa_nil)))))) pss_nil)
 (pss_cons (ps_if (pt_val (pe_callB call_iswT (by rfl) (T.nb _ (by decide)) (by decide +kernel) (pa_cons (pv 1) (pa_cons (pe_tup (pa_cons (pe_glob (v := .ref (adr X.mg "BadConverter")) rfl (TH.mgc _ (by decide)) rfl) (pa_cons (pe_glob (v := .ref (adr X.mg "NoText")) rfl (TH.mgc _ (by decide)) rfl) pa_nil))) pa_nil))))
 (pss_one (ps_ret (pe_ifExp (pt_val (pe_callB call_isw (by rfl) (T.nb _ (by decide)) (by decide +kernel) (pa_cons (pv 1) (pa_cons (pe_glob (v := .ref (adr X.mg "BadConverter")) rfl (TH.mgc _ (by decide)) rfl) pa_nil)))) (pe_tup (pa_cons (pe_str) (pa_cons (pe_xw (pv 1)) pa_nil))) (pe_tup (pa_cons (pe_str) (pa_cons (pe_callB (call_reprV hA hr.units) (by rfl) (T.nb _ (by decide)) (by decide +kernel) (pa_cons (pe_xw (pv 1)) pa_nil)) pa_nil)))))) pss_nil)
 (pss_one (ps_ret (pe_tup (pa_cons (pe_str) pa_nil)))))))))), ?_⟩
  refine ⟨(by show 2 ≤ sizeLine; decide), fun q0 hq0 => ⟨q0, _, rfl, SqT.of upd_same, rfl, _, _, rfl, _, _, rfl, rfl, ?_⟩⟩
  have sm := Same.new (u := .tup [.non, .non]) hq0
  refine ⟨EEh X.K X.mg Q, ?_, rfl, sm _ _ hc, ?_⟩
  · rintro cls d σ' H1 ⟨x, dd, fs, rfl, rfl, hdd, hcase⟩
    have hx : x ∈ hNames := by
      rcases hcase with ⟨rfl, _⟩ | ⟨rfl, _⟩ | ⟨rfl, _⟩ | ⟨rfl, _⟩ | ⟨rfl, _⟩ <;> decide
    refine ⟨true, TH.ex x hx, (fun z => Bool.noConfusion z), fun _ hlen => ⟨_, rfl, fun a ha => ?_⟩⟩
    obtain ⟨a0, a1, a2, a3, rfl⟩ : ∃ a0 a1 a2 a3, σ' = [a0, a1, a2, a3] := by
      match σ', hlen with
      | [a0, a1, a2, a3], _ => exact ⟨_, _, _, _, rfl⟩
    refine ⟨_, rfl, ?_⟩
    have sa : Same H1 (upd H1 a (exc a (adr X.mg x) (some dd))) := Same.new ha
    refine ⟨_, rfl, rfl, _, rfl, iteF ?_⟩
    generalize hG : upd H1 a (exc a (adr X.mg x) (some dd)) = G at sa
    have ga : G a = some (exc a (adr X.mg x) (some dd)) := by rw [← hG]; exact upd_same
    have gd : G dd = some (.xd fs) := sa _ _ hdd
    clear hG
    rcases hcase with ⟨rfl, v, v2, l1, l2, out⟩ | ⟨rfl, v, l1, out⟩ | ⟨rfl, v, tx, l1, sh, out⟩ | ⟨rfl, v, tx, l1, sh, out⟩ | ⟨rfl, v, l1, out⟩
    · refine ⟨_, rfl, (by show 2 ≤ sizeLine; decide), fun t1 ht1 => ?_⟩
      have s2 := Same.new (u := .tup [.ref (adr X.mg "NoStep"), .ref (adr X.mg "NoTail")]) ht1
      refine ⟨a, _, dd, fs, t1, _, _, true, rfl, TH.cl _ hx, s2 _ _ ga, s2 _ _ gd, upd_same, .cons (.own _) (.cons (.own _) .nil), (TH.kit2 hx (by decide) (by decide)).trans (by decide +kernel), _, rfl, iteT ?_⟩
      have sb := sa.trans s2
      generalize upd G t1 (.tup [.ref (adr X.mg "NoStep"), .ref (adr X.mg "NoTail")]) = G2 at s2 sb
      refine ⟨_, rfl, a, _, dd, fs, .ref (adr X.mg "NoStep"), .ref (adr X.mg "NoStep"), true, rfl, TH.cl _ hx, s2 _ _ ga, s2 _ _ gd, (fun u r => r), (TH.kit _ hx _ hx).trans (by decide +kernel), _, rfl, iteT ?_⟩
      exact ⟨_, rfl, a, _, dd, fs, v, rfl, TH.cl _ hx, TH.na _ hx _ (by decide), s2 _ _ ga, s2 _ _ gd, l1, _, rfl, a, _, dd, fs, v2, rfl, TH.cl _ hx, TH.na _ hx _ (by decide), s2 _ _ ga, s2 _ _ gd, l2, (by show 3 ≤ sizeLine; decide), fun R hR => out R _ (sb.free hR) (sb.trans (Same.new hR)) upd_same⟩
    · refine ⟨_, rfl, (by show 2 ≤ sizeLine; decide), fun t1 ht1 => ?_⟩
      have s2 := Same.new (u := .tup [.ref (adr X.mg "NoStep"), .ref (adr X.mg "NoTail")]) ht1
      refine ⟨a, _, dd, fs, t1, _, _, true, rfl, TH.cl _ hx, s2 _ _ ga, s2 _ _ gd, upd_same, .cons (.own _) (.cons (.own _) .nil), (TH.kit2 hx (by decide) (by decide)).trans (by decide +kernel), _, rfl, iteT ?_⟩
      have sb := sa.trans s2
      generalize upd G t1 (.tup [.ref (adr X.mg "NoStep"), .ref (adr X.mg "NoTail")]) = G2 at s2 sb
      refine ⟨_, rfl, a, _, dd, fs, .ref (adr X.mg "NoStep"), .ref (adr X.mg "NoStep"), false, rfl, TH.cl _ hx, s2 _ _ ga, s2 _ _ gd, (fun u r => r), (TH.kit _ hx _ (by decide)).trans (by decide +kernel), _, rfl, iteF ?_⟩
      exact ⟨_, rfl, a, _, dd, fs, v, rfl, TH.cl _ hx, TH.na _ hx _ (by decide), s2 _ _ ga, s2 _ _ gd, l1, (by show 2 ≤ sizeLine; decide), fun R hR => out R _ (sb.free hR) (sb.trans (Same.new hR)) upd_same⟩
    · refine ⟨_, rfl, (by show 2 ≤ sizeLine; decide), fun t1 ht1 => ?_⟩
      have s2 := Same.new (u := .tup [.ref (adr X.mg "NoStep"), .ref (adr X.mg "NoTail")]) ht1
      refine ⟨a, _, dd, fs, t1, _, _, false, rfl, TH.cl _ hx, s2 _ _ ga, s2 _ _ gd, upd_same, .cons (.own _) (.cons (.own _) .nil), (TH.kit2 hx (by decide) (by decide)).trans (by decide +kernel), _, rfl, iteF ?_⟩
      generalize upd G t1 (.tup [.ref (adr X.mg "NoStep"), .ref (adr X.mg "NoTail")]) = G2 at s2
      refine ⟨_, rfl, (by show 2 ≤ sizeLine; decide), fun t2 ht2 => ?_⟩
      have s3 := s2.trans (Same.new (u := .tup [.ref (adr X.mg "BadWord"), .ref (adr X.mg "BadNumber")]) ht2)
      refine ⟨a, _, dd, fs, t2, _, _, true, rfl, TH.cl _ hx, s3 _ _ ga, s3 _ _ gd, upd_same, .cons (.own _) (.cons (.own _) .nil), (TH.kit2 hx (by decide) (by decide)).trans (by decide +kernel), _, rfl, iteT ?_⟩
      have sb := sa.trans s3
      generalize upd G2 t2 (.tup [.ref (adr X.mg "BadWord"), .ref (adr X.mg "BadNumber")]) = G3 at s3 sb
      refine ⟨_, rfl, a, _, dd, fs, .ref (adr X.mg "BadWord"), .ref (adr X.mg "BadWord"), false, rfl, TH.cl _ hx, s3 _ _ ga, s3 _ _ gd, (fun u r => r), (TH.kit _ hx _ (by decide)).trans (by decide +kernel), _, rfl, iteF ?_⟩
      exact ⟨_, rfl, a, _, dd, fs, v, rfl, TH.cl _ hx, TH.na _ hx _ (by decide), s3 _ _ ga, s3 _ _ gd, l1, v, tx, rfl, sh _ sb, (by show 2 ≤ sizeLine; decide), fun R hR => out R _ (sb.free hR) (sb.trans (Same.new hR)) upd_same⟩
    · refine ⟨_, rfl, (by show 2 ≤ sizeLine; decide), fun t1 ht1 => ?_⟩
      have s2 := Same.new (u := .tup [.ref (adr X.mg "NoStep"), .ref (adr X.mg "NoTail")]) ht1
      refine ⟨a, _, dd, fs, t1, _, _, false, rfl, TH.cl _ hx, s2 _ _ ga, s2 _ _ gd, upd_same, .cons (.own _) (.cons (.own _) .nil), (TH.kit2 hx (by decide) (by decide)).trans (by decide +kernel), _, rfl, iteF ?_⟩
      generalize upd G t1 (.tup [.ref (adr X.mg "NoStep"), .ref (adr X.mg "NoTail")]) = G2 at s2
      refine ⟨_, rfl, (by show 2 ≤ sizeLine; decide), fun t2 ht2 => ?_⟩
      have s3 := s2.trans (Same.new (u := .tup [.ref (adr X.mg "BadWord"), .ref (adr X.mg "BadNumber")]) ht2)
      refine ⟨a, _, dd, fs, t2, _, _, true, rfl, TH.cl _ hx, s3 _ _ ga, s3 _ _ gd, upd_same, .cons (.own _) (.cons (.own _) .nil), (TH.kit2 hx (by decide) (by decide)).trans (by decide +kernel), _, rfl, iteT ?_⟩
      have sb := sa.trans s3
      generalize upd G2 t2 (.tup [.ref (adr X.mg "BadWord"), .ref (adr X.mg "BadNumber")]) = G3 at s3 sb
      refine ⟨_, rfl, a, _, dd, fs, .ref (adr X.mg "BadWord"), .ref (adr X.mg "BadWord"), true, rfl, TH.cl _ hx, s3 _ _ ga, s3 _ _ gd, (fun u r => r), (TH.kit _ hx _ hx).trans (by decide +kernel), _, rfl, iteT ?_⟩
      exact ⟨_, rfl, a, _, dd, fs, v, rfl, TH.cl _ hx, TH.na _ hx _ (by decide), s3 _ _ ga, s3 _ _ gd, l1, v, tx, rfl, sh _ sb, (by show 2 ≤ sizeLine; decide), fun R hR => out R _ (sb.free hR) (sb.trans (Same.new hR)) upd_same⟩
    · refine ⟨_, rfl, (by show 2 ≤ sizeLine; decide), fun t1 ht1 => ?_⟩
      have s2 := Same.new (u := .tup [.ref (adr X.mg "NoStep"), .ref (adr X.mg "NoTail")]) ht1
      refine ⟨a, _, dd, fs, t1, _, _, false, rfl, TH.cl _ hx, s2 _ _ ga, s2 _ _ gd, upd_same, .cons (.own _) (.cons (.own _) .nil), (TH.kit2 hx (by decide) (by decide)).trans (by decide +kernel), _, rfl, iteF ?_⟩
      generalize upd G t1 (.tup [.ref (adr X.mg "NoStep"), .ref (adr X.mg "NoTail")]) = G2 at s2
      refine ⟨_, rfl, (by show 2 ≤ sizeLine; decide), fun t2 ht2 => ?_⟩
      have s3 := s2.trans (Same.new (u := .tup [.ref (adr X.mg "BadWord"), .ref (adr X.mg "BadNumber")]) ht2)
      refine ⟨a, _, dd, fs, t2, _, _, false, rfl, TH.cl _ hx, s3 _ _ ga, s3 _ _ gd, upd_same, .cons (.own _) (.cons (.own _) .nil), (TH.kit2 hx (by decide) (by decide)).trans (by decide +kernel), _, rfl, iteF ?_⟩
      generalize upd G2 t2 (.tup [.ref (adr X.mg "BadWord"), .ref (adr X.mg "BadNumber")]) = G3 at s3
      refine ⟨_, rfl, (by show 2 ≤ sizeLine; decide), fun t3 ht3 => ?_⟩
      have s4 := s3.trans (Same.new (u := .tup [.ref (adr X.mg "BadConverter"), .ref (adr X.mg "NoText")]) ht3)
      refine ⟨a, _, dd, fs, t3, _, _, true, rfl, TH.cl _ hx, s4 _ _ ga, s4 _ _ gd, upd_same, .cons (.own _) (.cons (.own _) .nil), (TH.kit2 hx (by decide) (by decide)).trans (by decide +kernel), _, rfl, iteT ?_⟩
      have sb := sa.trans s4
      generalize upd G3 t3 (.tup [.ref (adr X.mg "BadConverter"), .ref (adr X.mg "NoText")]) = G4 at s4 sb
      refine ⟨_, rfl, a, _, dd, fs, .ref (adr X.mg "BadConverter"), .ref (adr X.mg "BadConverter"), true, rfl, TH.cl _ hx, s4 _ _ ga, s4 _ _ gd, (fun u r => r), (TH.kit _ hx _ hx).trans (by decide +kernel), _, rfl, iteT ?_⟩
      exact ⟨_, rfl, a, _, dd, fs, v, rfl, TH.cl _ hx, TH.na _ hx _ (by decide), s4 _ _ ga, s4 _ _ gd, l1, (by show 2 ≤ sizeLine; decide), fun R hR => out R _ (sb.free hR) (sb.trans (Same.new hR)) upd_same⟩
  · refine h _ _ sm fun v H1 hout => ?_
    refine ⟨_, rfl, rfl, _, rfl, iteT ?_⟩
    exact ⟨_, rfl, (by show 1 ≤ sizeLine; decide), fun L hL => hout L _ hL (Same.new hL) upd_same⟩
end
end KC
namespace KC
open PySem L2 PyProof.Rows
theorem SqT.extN {K : PySem.W.Frag} {H H' : Hp} {a : Addr} {xs : List V} (h : SqT K H a xs) (m : LamX.ExtN H H') : SqT K H' a xs := by
  rcases h with (h | ⟨o, h⟩) | h
  · exact .inl (.inl (m _ _ h fun _ z => by cases z))
  · exact .inl (.inr ⟨o, m _ _ h fun _ z => by cases z⟩)
  · exact .inr h
theorem StAt.extN {K : PySem.W.Frag} {H H' : Hp} {d : Addr} {st : List StE} (h : StAt K H d st) (m : LamX.ExtN H H') : StAt K H' d st := by
  obtain ⟨kvs, a, b, c⟩ := h.ex
  refine ⟨kvs, m _ _ a (fun _ z => by cases z), ⟨b.1, fun i e he => ?_⟩, c⟩
  obtain ⟨q, h1, h2⟩ := b.2 i e he
  exact ⟨q, h1, SqT.extN h2 m⟩
theorem CvAt.extN {K : PySem.W.Frag} {C : Addr} {H H' : Hp} {x : Addr} {s : Str} {st : List StE} {tl : List (Str × Str)} (h : CvAt K C H x s st tl) (m : LamX.ExtN H H') : CvAt K C H' x s st tl := by
  obtain ⟨dx, ss, ls, d, t, ys, zs, h1, h2, h3, h4, h5, h6, h7, h8, h9, h10⟩ := h
  exact ⟨dx, ss, ls, d, t, ys, zs, m _ _ h1 (fun _ z => by cases z), m _ _ h2 (fun _ z => by cases z), h3, h4, m _ _ h5 (fun _ z => by cases z), h6, h7, StAt.extN h8 m, m _ _ h9 (fun _ z => by cases z), h10⟩
theorem PlAt.extN {K : PySem.W.Frag} {H H' : Hp} {p : Addr} {s : Str} {st : List StE} {tl : List (Str × Str)} (h : PlAt K H p s st tl) (m : LamX.ExtN H H') : PlAt K H' p s st tl := by
  obtain ⟨d, t, h1, h2, h3, h4⟩ := h
  exact ⟨d, t, m _ _ h1 (fun _ z => by cases z), StAt.extN h2 m, m _ _ h3 (fun _ z => by cases z), h4⟩
theorem PenAt.extN {H H' : Hp} {p c : Addr} {ns : List Int} {n : Nat} (h : PenAt H p c ns n) (m : LamX.ExtN H H') : PenAt H' p c ns n := by
  obtain ⟨t, g, a, b, e⟩ := h
  exact ⟨t, g, m _ _ a (fun _ z => by cases z), m _ _ b (fun _ z => by cases z), e⟩
theorem extN_same {H H' : Hp} (h : Same H H') : LamX.ExtN H H' := fun b o e _ => h b o e
section
variable {X : Cx} {c P : Addr} {TT : List (Addr × Str)} {t : XK → TE} {p lpos pos : Pos} {params : Arguments} {body : Expr} {scope : Scope} {j : Nat}
/-- _law_heard(lambda: ..) -/
theorem pe_heard (TH : TxH X.K X.mg) (hA : X.A.guards = some []) (hr : Room j X.A) (hg : Gl X "_law_heard") (TB : LamX.TabB X.base X.mg c P) (hcode : X.env.code = .ref c)
    (hmT : (P, X.env.qual ++ "<lambda>") ∈ TT) (hu : ∀ q ∈ TT, q.1 = P → q.2 = X.env.qual ++ "<lambda>") (L : LamX.LamS X.env.scope scope) (hdef : defaultsOf params X.env = ([], []))
    (hbind : ∀ (q : Str) (cl : List (Str × Addr)) (pm cv ctv : Value), bindArgs (PySem.W.kla_fn "<lambda>" q params body scope cl pm cv ctv) ⟨[], []⟩ = pure [])
    (hbody : ∀ (A : Around) (outer : List Env) (s : Shared) (H : Hp) (E : XK) (f c' : Addr), Room 6 (A.deeper (LamX.lamEnv X scope s.heap.objs.size f c')) → PE (LamX.lamCx X A outer s H E scope f c') body (t E))
    (hj : 8 ≤ j := by decide) :
    PE X (.Call (.Name "_law_heard" p) [.Lambda params body scope lpos] [] pos) (LamX.tLam TT (TTh X.K X.mg) t) := by
  obtain ⟨g, fd, hm, F, hb⟩ := TH.T.d_lheard
  obtain ⟨oc, od, kV, doc, pm, an, cdv, ct, osl, rfl, lk, hcd⟩ := F.ex
  have hr5 : Room 8 X.A := hr.mono hj
  exact LamX.pe_lamcall hg hm F.kp lk hcd hb sc_lheard rfl (Or.inl rfl) (heard_gives TH hA (hr5.mono (by decide))) TB hcode hmT hu hr5 L hdef hbind hbody
end
theorem extN_over {H H3 H6 : Hp} {L : Addr} {u : HO} (a : LamX.ExtN H H3) (hL : H3 L = none) (m : LamX.ExtN H H6) : LamX.ExtN H (upd H6 L u) := fun b o e n => upd_oth (fun z => by
  have := a b o e n
  rw [z, hL] at this
  cases this) (m b o e n)
theorem tabs_updL {T : List (Addr × Str)} {H : Hp} {L : Addr} {xs : List V} {u : HO} (t : LamX.Tabs T H) (g : H L = some (.lst xs)) : LamX.Tabs T (upd H L u) := by
  intro p hp
  obtain ⟨ps, h1, h2, h3⟩ := t p hp
  refine ⟨ps, upd_oth (fun z => by rw [z, g] at h1; cases h1) h1, h2, fun pos cv hc => ?_⟩
  obtain ⟨c, e1, e2⟩ := h3 pos cv hc
  exact ⟨c, e1, upd_oth (fun z => by rw [z, g] at e2; cases e2) e2⟩
inductive Flat : V → PyData → Prop
  | int (i : Int) : Flat (.int i) (.int i)
  | str (s : Str) (h : PyData.strOk s = true) : Flat (.str s) (.str s)
inductive FlatAll : List V → List PyData → Prop
  | nil : FlatAll [] []
  | cons {v : V} {d : PyData} {vs : List V} {ds : List PyData} : Flat v d → FlatAll vs ds → FlatAll (v :: vs) (d :: ds)
theorem FlatAll.dp {K : PySem.W.Frag} {H : Hp} : ∀ {vs : List V} {ds : List PyData}, FlatAll vs ds → DpAll K H vs ds
  | _, _, .nil => .nil
  | _, _, .cons (.int i) t => .cons (.int i) t.dp
  | _, _, .cons (.str s _) t => .cons (.str s) t.dp
theorem FlatAll.can : ∀ {vs : List V} {ds : List PyData}, FlatAll vs ds → PyData.canLayAll0 ds = true
  | _, _, .nil => rfl
  | _, _, .cons (.int i) t => by
    unfold PyData.canLayAll0
    rw [t.can]
    rfl
  | _, _, .cons (.str s h) t => by
    unfold PyData.canLayAll0
    rw [t.can]
    simp [PyData.canLay0, h]
theorem FlatAll.dep : ∀ {vs : List V} {ds : List PyData}, FlatAll vs ds → PyData.depthAll ds ≤ 1
  | _, _, .nil => by simp [PyData.depthAll]
  | _, _, .cons (.int i) t => by
    have := t.dep
    simp [PyData.depthAll, PyData.depth]
    omega
  | _, _, .cons (.str s h) t => by
    have := t.dep
    simp [PyData.depthAll, PyData.depth]
    omega
theorem FlatAll.eqv : ∀ {vs : List V} {ds : List PyData}, FlatAll vs ds → PyData.eqvAll ds ds = true
  | _, _, .nil => by simp [PyData.eqvAll]
  | _, _, .cons (.int i) t => by simp [PyData.eqvAll, PyData.eqv, t.eqv]
  | _, _, .cons (.str s h) t => by simp [PyData.eqvAll, PyData.eqv, t.eqv]
theorem flat_strs : ∀ {xs : List Str}, (∀ x ∈ xs, PyData.strOk x = true) → FlatAll (xs.map V.str) (xs.map PyData.str)
  | [], _ => .nil
  | x :: xs, h => .cons (.str x (h x List.mem_cons_self)) (flat_strs fun y hy => h y (List.mem_cons_of_mem _ hy))
/-- a told value -/
def Lay (H : Hp) (v : V) (d : PyData) : Prop := (∃ a xs ds, v = .ref a ∧ H a = some (.tup xs) ∧ FlatAll xs ds ∧ d = .tuple ds) ∨
  (∃ L R xs ds, v = .ref L ∧ H L = some (.lst [.ref R]) ∧ H R = some (.tup xs) ∧ FlatAll xs ds ∧ d = .list [.tuple ds]) ∨
  (∃ L xs ds, v = .ref L ∧ H L = some (.lst xs) ∧ FlatAll xs ds ∧ d = .list ds)
theorem Lay.extN {H H' : Hp} {v : V} {d : PyData} (h : Lay H v d) (m : LamX.ExtN H H') : Lay H' v d := by
  rcases h with ⟨a, xs, ds, e, h1, h2, h3⟩ | ⟨L, R, xs, ds, e, h1, h2, h3, h4⟩ | ⟨L, xs, ds, e, h1, h3, h4⟩
  · exact .inl ⟨a, xs, ds, e, m _ _ h1 (fun _ z => by cases z), h2, h3⟩
  · exact .inr (.inl ⟨L, R, xs, ds, e, m _ _ h1 (fun _ z => by cases z), m _ _ h2 (fun _ z => by cases z), h3, h4⟩)
  · exact .inr (.inr ⟨L, xs, ds, e, m _ _ h1 (fun _ z => by cases z), h3, h4⟩)
theorem Lay.updL {H : Hp} {v : V} {d : PyData} {L : Addr} {ys : List V} {u : HO} (h : Lay H v d) (g : H L = some (.lst ys)) (ne : v ≠ .ref L) : Lay (upd H L u) v d := by
  rcases h with ⟨a, xs, ds, e, h1, h2, h3⟩ | ⟨L', R, xs, ds, e, h1, h2, h3, h4⟩ | ⟨L', xs, ds, e, h1, h3, h4⟩
  · exact .inl ⟨a, xs, ds, e, upd_oth (fun z => by rw [z, g] at h1; cases h1) h1, h2, h3⟩
  · exact .inr (.inl ⟨L', R, xs, ds, e, upd_oth (fun z => ne (by rw [e, z])) h1, upd_oth (fun z => by rw [z, g] at h2; cases h2) h2, h3, h4⟩)
  · exact .inr (.inr ⟨L', xs, ds, e, upd_oth (fun z => ne (by rw [e, z])) h1, h3, h4⟩)
theorem Lay.dp {K : PySem.W.Frag} {H : Hp} {v : V} {d : PyData} (h : Lay H v d) : Dp K H v d := by
  rcases h with ⟨a, xs, ds, rfl, h1, h2, rfl⟩ | ⟨L, R, xs, ds, rfl, h1, h2, h3, rfl⟩ | ⟨L, xs, ds, rfl, h1, h3, rfl⟩
  · exact .tup (SqT.of h1) h2.dp
  · exact .lst (SqL.of h1) (.cons (.tup (SqT.of h2) h3.dp) .nil)
  · exact .lst (SqL.of h1) h3.dp
theorem Lay.can {H : Hp} {v : V} {d : PyData} (h : Lay H v d) : PyData.canLay0 d = true ∧ PyData.depth d ≤ 3 ∧ PyData.eqv d d = true := by
  rcases h with ⟨a, xs, ds, rfl, h1, h2, rfl⟩ | ⟨L, R, xs, ds, rfl, h1, h2, h3, rfl⟩ | ⟨L, xs, ds, rfl, h1, h3, rfl⟩
  · have := h2.dep
    refine ⟨by simp [PyData.canLay0, h2.can], by simp [PyData.depth]; omega, by simp [PyData.eqv, h2.eqv]⟩
  · have := h3.dep
    refine ⟨by simp [PyData.canLay0, PyData.canLayAll0, h3.can], by simp [PyData.depth, PyData.depthAll]; omega, by simp [PyData.eqv, PyData.eqvAll, h3.eqv]⟩
  · have := h3.dep
    refine ⟨by simp [PyData.canLay0, h3.can], by simp [PyData.depth]; omega, by simp [PyData.eqv, h3.eqv]⟩
theorem lay_shaped : ∀ {ds : List PyData}, (∀ d ∈ ds, PyData.canLay0 d = true ∧ PyData.depth d ≤ 3 ∧ PyData.eqv d d = true) → SeqAt.shaped (.list ds) = true ∧ PyData.eqv (.list ds) (.list ds) = true := by
  intro ds h
  have a : PyData.canLayAll0 ds = true ∧ PyData.depthAll ds ≤ 3 ∧ PyData.eqvAll ds ds = true := by
    induction ds with
    | nil => exact ⟨rfl, by simp [PyData.depthAll], by simp [PyData.eqvAll]⟩
    | cons d ds ih =>
      obtain ⟨a1, a2, a3⟩ := ih fun x hx => h x (List.mem_cons_of_mem _ hx)
      obtain ⟨b1, b2, b3⟩ := h d List.mem_cons_self
      refine ⟨by simp [PyData.canLayAll0, a1, b1], by simp [PyData.depthAll]; omega, by simp [PyData.eqvAll, a3, b3]⟩
  obtain ⟨a1, a2, a3⟩ := a
  refine ⟨?_, by simp [PyData.eqv, a3]⟩
  simp [SeqAt.shaped, PyData.canLay0, PyData.depth, a1]
  omega
theorem Wk.uniq {st : List StE} {s e : Str} {cs : List Nat} {ws : List (Str × Str)} (h : Wk st s cs ws e) : ∀ {ws' : List (Str × Str)} {e' : Str}, Wk st s cs ws' e' → ws = ws' ∧ e = e' := by
  induction h with
  | nil s =>
    intro ws' e' h
    cases h
    exact ⟨rfl, rfl⟩
  | cons h1 _ ih =>
    intro ws' e' h
    cases h with
    | cons k1 k2 =>
      rw [h1] at k1
      obtain ⟨rfl, rfl⟩ := Prod.mk.inj (Option.some.inj k1)
      obtain ⟨e1, e2⟩ := ih k2
      exact ⟨by rw [e1], e2⟩
end KC
namespace KC
open PySem L2 PyProof.Rows
def outS (ws : List (Str × Str)) : Str := catS (ws.map (·.1))
theorem wk_folA {st : List StE} {s e : Str} {cs : List Nat} {ws : List (Str × Str)} (h : Wk st s cs ws e) : ∀ (w : Str) (n : Nat) (rest : List Nat), fol st w s (cs ++ rest) n = fol st (w ++ outS ws) e rest (n + cs.length) := by
  induction h with
  | nil s =>
    intro w n rest
    show fol st w s rest n = fol st (w ++ ("" : Str)) s rest (n + 0)
    rw [app_nil, Nat.add_zero]
  | cons h1 _ ih =>
    rename_i s a to e c cs ws _
    intro w n rest
    rw [List.cons_append]
    have e1 : fol st w s (c :: (cs ++ rest)) n = fol st (w ++ a) to (cs ++ rest) (n + 1) := by
      conv => lhs; unfold fol
      rw [h1]
    rw [e1, ih, app_assoc, List.length_cons, Nat.add_assoc n 1 cs.length, Nat.add_comm 1 cs.length]
    rfl
theorem run_fol {st : List StE} {s e : Str} {z : Str} {i : Nat} {w1 : List (Str × Str)} (wk : Wk st s (z.cps.toList.take i) w1 e) (hl : w1.length = i) (fin : i = z.length ∨ ∃ c, z.cps.toList[i]? = some c ∧ stepOf st e ⟨#[c]⟩ = none) :
    fol st "" s z.cps.toList 0 = (outS w1, e, i) ∧ i ≤ z.length ∧ (i = z.length → Wk st s z.cps.toList w1 e) := by
  have zl : z.cps.toList.length = z.length := Array.length_toList
  have hi : i ≤ z.length := by
    rcases fin with h | ⟨c, h, _⟩
    · omega
    · rcases Nat.lt_or_ge i z.cps.toList.length with h2 | h2
      · omega
      · rw [List.getElem?_eq_none h2] at h
        cases h
  refine ⟨?_, hi, fun h => ?_⟩
  · have h := wk_folA wk "" 0 (z.cps.toList.drop i)
    rw [List.take_append_drop, nil_app, List.length_take, zl, Nat.min_eq_left hi, Nat.zero_add] at h
    rw [h]
    rcases fin with h2 | ⟨c, h2, hn⟩
    · rw [List.drop_eq_nil_of_le (by omega)]
      unfold fol
      rfl
    · have hlt : i < z.cps.toList.length := by
        rcases Nat.lt_or_ge i z.cps.toList.length with h | h
        · exact h
        · rw [List.getElem?_eq_none h] at h2
          cases h2
      rw [List.drop_eq_getElem_cons hlt]
      rw [List.getElem?_eq_getElem hlt] at h2
      rw [Option.some.inj h2]
      unfold fol
      rw [hn]
  · rw [h, ← zl, List.take_length] at wk
    exact wk
/-- an outcome moved to b -/
def shiftA (b : Nat) : Ans → Ans
  | .step i q => .step (b + i) q
  | a => a
theorem okL_sub {z : Str} {b e : Nat} (h : isTxt z = true) (he : e ≤ z.length) (hb : b ≤ e) : isTxt (sub z b e) = true := by
  have l := okL_le h
  have sl := sub_len he hb
  unfold isTxt okL at h ⊢
  simp only [Bool.and_eq_true, decide_eq_true_eq, List.all_eq_true] at h ⊢
  refine ⟨Nat.zero_le _, by omega, fun x hx => h.2.2 x ?_⟩
  rw [sub_list he hb] at hx
  exact List.mem_of_mem_take (List.mem_of_mem_drop hx)
theorem piece_ans {s : Str} {st : List StE} {tl : List (Str × Str)} {z : Str} {b e : Nat} (h : isTxt z = true) (he : e ≤ z.length) (hb : b ≤ e) : pieceOf s st tl z b e = shiftA b (ansOf s st tl (sub z b e)) := by
  unfold ansOf pieceOf
  rw [if_pos (okL_sub h he hb), sub_len he hb]
  generalize fol st "" s (sub z b e).cps.toList 0 = r
  by_cases hn : r.2.2 < e - b
  · rw [if_pos hn, if_pos hn]
    rfl
  · rw [if_neg hn, if_neg hn]
    cases tailOf tl r.2.1 <;> rfl
theorem ans_run {s e : Str} {st : List StE} {tl : List (Str × Str)} {z : Str} {i : Nat} {w : Str} (h : isTxt z = true) (hf : fol st "" s z.cps.toList 0 = (w, e, i)) : ansOf s st tl z = if i < z.length then .step i e else match tailOf tl e with
      | none => .tail e
      | some t => .ok (w ++ t) := by
  unfold ansOf
  rw [if_pos h, hf]
  try rfl
theorem Wk.at {st : List StE} {s e : Str} {cs : List Nat} {ws : List (Str × Str)} (h : Wk st s cs ws e) : ∀ (i c : Nat), cs[i]? = some c → ∃ s' a to, (sts s ws)[i]? = some s' ∧ ws[i]? = some (a, to) ∧ stepOf st s' ⟨#[c]⟩ = some (a, to) := by
  induction h with
  | nil s => intro i c h; simp at h
  | cons h1 _ ih =>
    rename_i s a to e c0 cs ws h2
    intro i c h
    cases i with
    | zero =>
      obtain rfl : c0 = c := Option.some.inj h
      exact ⟨s, a, to, rfl, rfl, h1⟩
    | succ i => exact ih i c h
variable {P : Program} {w : World} {K : PySem.W.Frag} {mg : Str → Option Value} {base : Heap}
/-- what the law tells of a piece -/
def PieceV (H : Hp) (v : V) : Ans → Prop
  | .step i q => ∃ T, v = .ref T ∧ H T = some (.tup [.str "step", .int (i : Nat), .str q])
  | .tail q => ∃ T, v = .ref T ∧ H T = some (.tup [.str "tail", .str q])
  | .ok a => ∃ L, v = .ref L ∧ H L = some (.lst [.str a])
  | .word => False
section
variable {P : Program} {w : World} {K : PySem.W.Frag} {mg : Str → Option Value} {base : Heap}
def spTaken (K : PySem.W.Frag) : Sp := fun vs H Q _ => ∃ (q : Addr) (z s : Str) (st : List StE) (tl : List (Str × Str)), vs = [.ref q, .str z] ∧ PlAt K H q s st tl ∧ OkParts s st tl ∧ isTxt z = true ∧
  ∀ H', Same H H' → Q (.bl (match ansOf s st tl z with | .ok _ => true | _ => false)) H'
theorem kp_istaken (T : Txt K mg) : Kf P w K mg base 2 "_law_is_taken" ["_law_plan_here", "_law_text_here"] (spTaken K) := by
  refine T.d_listaken.okF sc_listaken (fun vs H Q E h => ?_) (fun f cdv A outer s H vs Q E hA hr h => ?_)
  · obtain ⟨q, z, s, st, tl, rfl, _⟩ := h
    rfl
  · obtain ⟨q, z, s0, st, tl, rfl, pl, ok, hT, k⟩ := h
    refine ⟨_, (pss_cons (ps_set (i := 2) sc_listaken.nd rfl (Or.inl rfl) (pe_kf (kp_run T) hA hr (by rfl) (pa_cons (pv 0) (pa_cons (pv 1) pa_nil))))
 (pss_one (ps_ret ((pe_and (pe_cmpR op_eq (pe_callB call_len (by rfl) (T.nb _ (by decide)) PySem.boot_len (pa_cons (pv 2) pa_nil)) (pe_op op_add (pe_callB call_len (by rfl) (T.nb _ (by decide)) PySem.boot_len (pa_cons (pv 1) pa_nil)) (pe_int)) (nomark _)) (pe_one (pe_cmp (pc_din (hu_of hr) (pe_ix (ix_list : IxR _ (rIxL K)) (pv 2) (pe_un un_neg (pe_int)) (fun _ _ => rfl)) (pe_dget (hu_of hr) (pv 0) (pe_str) (fun _ _ => rfl)))))))))), ?_⟩
    refine ⟨_, rfl, _, rfl, q, z, s0, st, tl, rfl, pl, ok, hT, fun i w1 e L H1 s1 gL lw wk fin => ?_⟩
    obtain ⟨hf, hi, _⟩ := run_fol wk lw fin
    have k := k H1 s1
    rw [ans_run (tl := tl) hT hf] at k
    have l4 : z.length ≤ 400 := okL_le hT
    have sl : (sts s0 w1).length = i + 1 := by
      unfold sts
      rw [List.length_cons, List.length_map, lw]
    obtain ⟨d, t, hq, hst, ht, nd⟩ := id (pl.same s1)
    refine ⟨_, rfl, .ref L, _, rfl, len_lst gL, _, rfl, .str z, _, rfl, ⟨Nat.le_trans l4 (by decide), rfl⟩, _, _, rfl, rfl, rfl, _, rfl, ?_⟩
    by_cases hn : i < z.length
    · rw [if_pos hn] at k
      refine ite2 (fun c1 => ?_) (fun c1 => k)
      have e1 := V.int.inj (of_decide_eq_true c1)
      rw [List.length_map, sl] at e1
      omega
    · rw [if_neg hn] at k
      refine ite2 (fun c1 => ?_) (fun c1 => ?_)
      · refine ⟨_, rfl, _, rfl, L, _, -1, .str e, rfl, rfl, SqL.of gL, atI_lastS wk.last, _, rfl, q, .ref t, rfl, .inl ⟨_, .inr "tails", .inl hq, rfl, (pl_tails s0 d t).symm⟩, t, _, rfl, .inl ⟨_, .inr e, .inl ht, rfl, rfl⟩, ?_⟩
        rw [valV_tl, Option.isSome_map]
        cases he : tailOf tl e with
        | none =>
          rw [he] at k
          exact k
        | some u =>
          rw [he] at k
          exact k
      · exfalso
        refine c1 (decide_eq_true ?_)
        rw [List.length_map, sl]
        congr 1
        omega
def spLAns (K : PySem.W.Frag) : Sp := fun vs H Q _ => ∃ (q : Addr) (z s a : Str) (st : List StE) (tl : List (Str × Str)), vs = [.ref q, .str z] ∧ PlAt K H q s st tl ∧ OkParts s st tl ∧ isTxt z = true ∧ ansOf s st tl z = .ok a ∧
  ∀ H', Same H H' → a.length ≤ 5000 → Q (.str a) H'
theorem kp_lanswer (T : Txt K mg) : Kf P w K mg base 2 "_law_answer" ["_law_plan_here", "_law_text_here"] (spLAns K) := by
  refine T.d_lanswer.okF sc_lanswer (fun vs H Q E h => ?_) (fun f cdv A outer s H vs Q E hA hr h => ?_)
  · obtain ⟨q, z, s, a, st, tl, rfl, _⟩ := h
    rfl
  · obtain ⟨q, z, s0, a, st, tl, rfl, pl, ok, hT, ha, k⟩ := h
    refine ⟨_, (pss_cons (ps_set (i := 2) sc_lanswer.nd rfl (Or.inl rfl) (pe_kf (kp_run T) hA hr (by rfl) (pa_cons (pv 0) (pa_cons (pv 1) pa_nil))))
 (pss_one (ps_ret (pe_op op_add_str (pe_join (pe_str) (pe_lc (g := gTup K 2 (gCons (gName 3) (gCons (gName 4) gNil))) (own := [("_law_state", 3), ("_law_letter", 4)]) (tt := tYes) rfl sc_lanswer.nd (pi_zipS (by rfl) (T.nb _ (by decide)) (pa_cons (pv 2) (pa_cons (pv 1) pa_nil))) (blkOk_by (N := n_lanswer) (sc := defScope s_lanswer) (by decide +kernel)) (fun _ _ _ _ _ => pg_tup rfl (pgs_cons (pg_name (i := 3) sc_lanswer.nd rfl (Or.inl rfl)) (pgs_cons (pg_name (i := 4) sc_lanswer.nd rfl (Or.inl rfl)) pgs_nil))) (fun _ _ _ _ _ => pts_nil) (fun _ _ _ _ _ => (pe_ix (ix_tup : IxR _ (rIxT K)) (pe_dget (hu_of hr) (pe_dget (hu_of hr) (pv 0) (pe_str) (fun _ _ => rfl)) (pe_tup (pa_cons (pv 3) (pa_cons (pv 4) pa_nil))) (fun _ _ => rfl)) (pe_int) (fun _ _ => rfl))))) (pe_dget (hu_of hr) (pe_dget (hu_of hr) (pv 0) (pe_str) (fun _ _ => rfl)) (pe_ix (ix_list : IxR _ (rIxL K)) (pv 2) (pe_un un_neg (pe_int)) (fun _ _ => rfl)) (fun _ _ => rfl)))))), ?_⟩
    refine ⟨_, rfl, _, rfl, q, z, s0, st, tl, rfl, pl, ok, hT, fun i w1 e L H1 s1 gL lw wk fin => ?_⟩
    obtain ⟨hf, hi, wkf⟩ := run_fol wk lw fin
    rw [ans_run (tl := tl) hT hf] at ha
    have l4 : z.length ≤ 400 := okL_le hT
    have sl : (sts s0 w1).length = i + 1 := by
      unfold sts
      rw [List.length_cons, List.length_map, lw]
    by_cases hn : i < z.length
    · rw [if_pos hn] at ha
      cases ha
    rw [if_neg hn] at ha
    have hz : i = z.length := by omega
    have wk := wkf hz
    obtain ⟨u, hu, rfl⟩ : ∃ u, tailOf tl e = some u ∧ outS w1 ++ u = a := by
      cases he : tailOf tl e with
      | none => rw [he] at ha; cases ha
      | some u =>
        rw [he] at ha
        exact ⟨u, rfl, Ans.ok.inj ha⟩
    have lz : z.cps.size = z.length := rfl
    have wl : w1.length = z.length := by omega
    have ls : z.cps.size ≤ ((sts s0 w1).map V.str).length := by
      rw [List.length_map]
      omega
    obtain ⟨d, t, hq, ⟨kvs, hd, hsk, ndk⟩, ht, nd⟩ := id (pl.same s1)
    refine ⟨⟨_, rfl⟩, _, rfl, _, rfl, L, z, _, rfl, SqL.of gL, fun D hD => ?_⟩
    refine lc_it (walk_zipS (K := K) (a := L) (z := z) (xs := (sts s0 w1).map V.str) ls) (fun i H' => Same H1 H' ∧ H' D = some (.lst ((w1.take i).map fun p => V.str p.1))) ⟨Same.new hD, by rw [upd_same, List.take_zero]; rfl⟩ (fun i H' _ p => SqL.of (p.1 _ _ gL)) ?_ ?_
    · rintro j xv G0 H2 hj ⟨sm, gD⟩ ⟨T1, x1, y1, rfl, hT1, rfl, h1, h2⟩
      obtain ⟨cc, hc⟩ : ∃ cc, z.cps[j]? = some cc := ⟨_, Array.getElem?_eq_getElem hj⟩
      have h2' : (z.cps[j]?).map (fun c => V.str ⟨#[c]⟩) = some y1 := h2
      rw [hc] at h2'
      obtain rfl : V.str ⟨#[cc]⟩ = y1 := Option.some.inj h2'
      have hcl : z.cps.toList[j]? = some cc := by rw [Array.getElem?_toList]; exact hc
      obtain ⟨s', a, to, e1, e2, e3⟩ := wk.at j cc hcl
      have h1' : ((sts s0 w1).map V.str)[j]? = some x1 := h1
      rw [List.getElem?_map, e1] at h1'
      obtain rfl : V.str s' = x1 := Option.some.inj h1'
      have tk : w1.take (j + 1) = w1.take j ++ [(a, to)] := by
        rw [List.take_add_one, e2]
        rfl
      have sm2 : Same H1 (upd G0 T1 (.tup [.str s', .str ⟨#[cc]⟩])) := sm.trans (Same.new hT1)
      have gD2 := upd_new (u := .tup [.str s', .str ⟨#[cc]⟩]) hT1 gD
      refine ⟨T1, _, rfl, SqT.of upd_same, rfl, _, _, rfl, _, _, rfl, rfl, rfl, ?_⟩
      dsimp only [tYes]
      rw [if_pos rfl]
      generalize upd G0 T1 (.tup [.str s', .str ⟨#[cc]⟩]) = H3 at sm2 gD2
      refine ⟨_, rfl, q, .ref d, rfl, .inl ⟨_, .inr "steps", .inl (sm2 _ _ hq), rfl, (pl_steps s0 d t).symm⟩, _, rfl, _, rfl, (by show 2 ≤ sizeLine; decide), fun kt hkt => ?_⟩
      have q4 : Same H3 (upd H3 kt (.tup [.str s', .str ⟨#[cc]⟩])) := Same.new hkt
      have hk : upd H3 kt (.tup [.str s', .str ⟨#[cc]⟩]) kt = some (.tup [.str s', .str ⟨#[cc]⟩]) := upd_same
      have sm3 := sm2.trans q4
      have gD3 := q4 _ _ gD2
      generalize upd H3 kt (.tup [.str s', .str ⟨#[cc]⟩]) = H4 at sm3 hk gD3
      rcases (hsk.same sm3).get ndk s' ⟨#[cc]⟩ with ⟨f1, f2⟩ | ⟨a', to', qa, f1, f2, f3⟩
      · rw [e3] at f1
        cases f1
      rw [e3] at f1
      obtain ⟨rfl, rfl⟩ := Prod.mk.inj (Option.some.inj f1)
      refine ⟨d, .ref qa, rfl, .inr ⟨kvs, [.inr s', .inr ⟨#[cc]⟩], kt, .inl (sm3 _ _ hd), rfl, hk, f2.symm⟩, qa, _, 0, .str a, rfl, rfl, f3, rfl, _, gD3, ?_, fun b o eb => upd_oth (fun z => by rw [z, hD] at eb; cases eb) (sm3 _ _ eb), ?_⟩
      · rw [List.length_map, List.length_take]
        exact Nat.lt_of_le_of_lt (show _ ≤ 400 by omega) (by decide)
      · rw [upd_same, tk, List.map_append]
        rfl
    · rintro G ⟨sm, gD⟩
      have gD2 : G D = some (.lst ((w1.map (·.1)).map V.str)) := by
        rw [gD, lz, ← wl, List.take_length, List.map_map]
        rfl
      have p4 := (wk.le ok.ost).1
      have lS : lenS (w1.map (·.1)) ≤ 1600 := by
        have := lenS_le (b := 4) (ws := w1.map (·.1)) fun x hx => by
          obtain ⟨p, hp, rfl⟩ := List.mem_map.mp hx
          exact p4 p hp
        rw [List.length_map] at this
        omega
      have lu : u.length ≤ 4 := okL_le (tailOf_ok hu ok.otl)
      have lo : (outS w1).length = lenS (w1.map (·.1)) := catS_len _
      refine ⟨"", D, w1.map (·.1), rfl, rfl, .inl (SqL.of gD2), ?_, ?_⟩
      · rw [lenS_sum]
        exact Nat.le_trans (Nat.add_le_add_right lS _) (by show 1600 + _ * 0 ≤ _; omega)
      refine ⟨_, rfl, q, .ref t, rfl, .inl ⟨_, .inr "tails", .inl (sm _ _ hq), rfl, (pl_tails s0 d t).symm⟩, _, rfl, _, rfl, L, _, -1, .str e, rfl, rfl, SqL.of (sm _ _ gL), atI_lastS wk.last, t, .str u, rfl, .inl ⟨_, .inr e, .inl (sm _ _ ht), rfl, ?_⟩, _, _, rfl, rfl, ?_, ?_⟩
      · rw [valV_tl, hu]
        rfl
      · rw [join_cat]
        exact Nat.le_trans (show (outS w1).length + u.length ≤ 2000 by omega) (by decide)
      · rw [join_cat]
        exact k G (s1.trans sm) (by rw [strLen_append]; omega)
end
end KC
namespace KC
open PySem L2 PyProof.Rows
theorem ans_len {s a : Str} {st : List StE} {tl : List (Str × Str)} {z : Str} (ok : OkParts s st tl) (h : ansOf s st tl z = .ok a) : a.length ≤ 5000 := by
  unfold ansOf at h
  by_cases hT : isTxt z = true
  · rw [if_pos hT] at h
    have l4 := okL_le hT
    have fl := fol_len ok.ost z.cps.toList "" s 0
    rw [show z.cps.toList.length = z.length from Array.length_toList] at fl
    generalize fol st "" s z.cps.toList 0 = r at h fl
    by_cases hn : r.2.2 < z.length
    · rw [if_pos hn] at h
      cases h
    · rw [if_neg hn] at h
      cases ht : tailOf tl r.2.1 with
      | none => rw [ht] at h; cases h
      | some u =>
        rw [ht] at h
        have lu : u.length ≤ 4 := okL_le (tailOf_ok ht ok.otl)
        have l0 : ("" : Str).length = 0 := rfl
        rw [← Ans.ok.inj h, strLen_append]
        omega
  · rw [if_neg hT] at h
    cases h
section
variable {P : Program} {w : World} {K : PySem.W.Frag} {mg : Str → Option Value} {base : Heap}
def spLPiece (K : PySem.W.Frag) : Sp := fun vs H Q _ => ∃ (q : Addr) (y s : Str) (st : List StE) (tl : List (Str × Str)) (b : Nat), vs = [.ref q, .str y, .int (b : Nat)] ∧ PlAt K H q s st tl ∧ OkParts s st tl ∧ isTxt y = true ∧
  ∀ v H', Same H H' → PieceV H' v (shiftA b (ansOf s st tl y)) → Q v H'
theorem kp_lpiece (T : Txt K mg) : Kf P w K mg base 3 "_law_piece" ["_law_plan_here", "_law_text_here", "_law_first"] (spLPiece K) := by
  refine T.d_lpiece.okF sc_lpiece (fun vs H Q E h => ?_) (fun f cdv A outer s H vs Q E hA hr h => ?_)
  · obtain ⟨q, y, s, st, tl, b, rfl, _⟩ := h
    rfl
  · obtain ⟨q, z, s0, st, tl, b, rfl, pl, ok, hT, k⟩ := h
    refine ⟨_, (pss_cons (ps_set (i := 3) sc_lpiece.nd rfl (Or.inl rfl) (pe_kf (kp_run T) hA hr (by rfl) (pa_cons (pv 0) (pa_cons (pv 1) pa_nil))))
 (pss_cons (ps_if (pt_cmpR op_le (pe_callB call_len (by rfl) (T.nb _ (by decide)) PySem.boot_len (pa_cons (pv 3) pa_nil)) (pe_callB call_len (by rfl) (T.nb _ (by decide)) PySem.boot_len (pa_cons (pv 1) pa_nil)) (nomark _))
 (pss_one (ps_ret (pe_tup (pa_cons (pe_str) (pa_cons (pe_op op_sub (pe_op op_add (pv 2) (pe_callB call_len (by rfl) (T.nb _ (by decide)) PySem.boot_len (pa_cons (pv 3) pa_nil))) (pe_int)) (pa_cons (pe_ix (ix_list : IxR _ (rIxL K)) (pv 3) (pe_un un_neg (pe_int)) (fun _ _ => rfl)) pa_nil)))))) pss_nil)
 (pss_one (ps_ret (pe_ifExp (pt_cmp (pc_din (hu_of hr) (pe_ix (ix_list : IxR _ (rIxL K)) (pv 3) (pe_un un_neg (pe_int)) (fun _ _ => rfl)) (pe_dget (hu_of hr) (pv 0) (pe_str) (fun _ _ => rfl)))) (pe_lst (pa_cons (pe_kf (kp_lanswer T) hA hr (by rfl) (pa_cons (pv 0) (pa_cons (pv 1) pa_nil))) pa_nil)) (pe_tup (pa_cons (pe_str) (pa_cons (pe_ix (ix_list : IxR _ (rIxL K)) (pv 3) (pe_un un_neg (pe_int)) (fun _ _ => rfl)) pa_nil)))))))), ?_⟩
    refine ⟨_, rfl, _, rfl, q, z, s0, st, tl, rfl, pl, ok, hT, fun i w1 e L H1 s1 gL lw wk fin => ?_⟩
    obtain ⟨hf, hi, _⟩ := run_fol wk lw fin
    have ha := ans_run (tl := tl) hT hf
    have l4 : z.length ≤ 400 := okL_le hT
    have sl : (sts s0 w1).length = i + 1 := by
      unfold sts
      rw [List.length_cons, List.length_map, lw]
    refine ⟨_, rfl, .ref L, _, rfl, len_lst gL, _, rfl, .str z, _, rfl, ⟨Nat.le_trans l4 (by decide), rfl⟩, _, _, rfl, rfl, _, rfl, ?_⟩
    rw [List.length_map, sl]
    by_cases hn : i < z.length
    · rw [if_pos hn] at ha
      rw [ha] at k
      rw [decide_eq_true (show ((i + 1 : Nat) : Int) ≤ (z.length : Nat) by omega)]
      refine iteT ?_
      refine ⟨_, rfl, _, rfl, .ref L, _, rfl, len_lst gL, _, _, rfl, rfl, _, _, rfl, rfl, _, rfl, _, rfl, L, _, -1, .str e, rfl, rfl, SqL.of gL, atI_lastS wk.last, (by show 3 ≤ sizeLine; decide), fun T1 hT1 => ?_⟩
      refine k _ _ (s1.trans (Same.new hT1)) ⟨T1, rfl, ?_⟩
      rw [upd_same, List.length_map, sl]
      congr 4
      show V.int ((b : Int) + ((i + 1 : Nat) : Int) - 1) = V.int ((b + i : Nat) : Int)
      congr 1
      omega
    · rw [if_neg hn] at ha
      rw [decide_eq_false (show ¬ ((i + 1 : Nat) : Int) ≤ (z.length : Nat) by omega)]
      refine iteF ?_
      obtain ⟨d, t, hq, hst, ht, nd⟩ := id (pl.same s1)
      refine ⟨_, rfl, _, rfl, L, _, -1, .str e, rfl, rfl, SqL.of gL, atI_lastS wk.last, _, rfl, q, .ref t, rfl, .inl ⟨_, .inr "tails", .inl hq, rfl, (pl_tails s0 d t).symm⟩, t, _, rfl, .inl ⟨_, .inr e, .inl ht, rfl, rfl⟩, _, rfl, ?_⟩
      rw [valV_tl, Option.isSome_map]
      cases he : tailOf tl e with
      | none =>
        rw [he] at ha
        rw [ha] at k
        refine iteF ?_
        refine ⟨_, rfl, _, rfl, L, _, -1, .str e, rfl, rfl, SqL.of gL, atI_lastS wk.last, (by show 2 ≤ sizeLine; decide), fun T1 hT1 => ?_⟩
        exact k _ _ (s1.trans (Same.new hT1)) ⟨T1, rfl, upd_same⟩
      | some u =>
        rw [he] at ha
        rw [ha] at k
        refine iteT ?_
        refine ⟨_, rfl, _, rfl, q, z, s0, _, st, tl, rfl, pl.same s1, ok, hT, ha, fun H2 s2 la => ?_⟩
        refine ⟨(by show 1 ≤ sizeLine; decide), fun T1 hT1 => ?_⟩
        exact k _ _ (s1.trans (s2.trans (Same.new hT1))) ⟨T1, rfl, upd_same⟩
end
end KC
namespace KC
open PySem L2 PyProof.Rows
/-- what the law tells of all pieces -/
def DueV (H : Hp) (v : V) : Ans ⊕ List Str → Prop
  | .inl a => PieceV H v a
  | .inr ws => ∃ L T, v = .ref L ∧ H L = some (.lst [.ref T]) ∧ H T = some (.tup (ws.map V.str))
theorem PieceV.same {H H' : Hp} {v : V} {a : Ans} (h : PieceV H v a) (s : Same H H') : PieceV H' v a := by
  cases a with
  | word => exact h
  | step i q => obtain ⟨T, e, g⟩ := h; exact ⟨T, e, s _ _ g⟩
  | tail q => obtain ⟨T, e, g⟩ := h; exact ⟨T, e, s _ _ g⟩
  | ok a => obtain ⟨T, e, g⟩ := h; exact ⟨T, e, s _ _ g⟩
section
variable {P : Program} {w : World} {K : PySem.W.Frag} {mg : Str → Option Value} {base : Heap}
def spLDue (K : PySem.W.Frag) : Sp := fun vs H Q _ => ∃ (q L : Addr) (z s : Str) (st : List StE) (tl : List (Str × Str)) (ps : List Nat), vs = [.ref q, .str z, .ref L] ∧ PlAt K H q s st tl ∧ OkParts s st tl ∧ isTxt z = true ∧
  H L = some (.lst (ps.map fun p : Nat => V.int p)) ∧ Asc z.length 0 ps ∧ ps.length ≤ 10 ∧
  ∀ v H', Same H H' → DueV H' v (pcs s st tl z [] 0 (ps ++ [z.length])) → Q v H'
theorem kp_ldue (T : Txt K mg) : Kf P w K mg base 4 "_law_due" ["_law_plan_here", "_law_text_here", "_law_places"] (spLDue K) := by
  refine T.d_ldue.okF sc_ldue (fun vs H Q E h => ?_) (fun f cdv A outer s H vs Q E hA hr h => ?_)
  · obtain ⟨q, L, z, s, st, tl, ps, rfl, _⟩ := h
    rfl
  · obtain ⟨q, L, z, s0, st, tl, ps, rfl, pl, ok, hT, hL, asc, lp, k⟩ := h
    refine ⟨_, (pss_cons (ps_par (i := 3) (j := 4) (by rfl) sc_ldue.nd rfl rfl (by decide) rfl rfl (pa_cons (pe_op op_cat (pe_op op_cat (pe_lst (pa_cons (pe_int) pa_nil)) (pv 2)) (pe_lst (pa_cons (pe_callB call_len (by rfl) (T.nb _ (by decide)) PySem.boot_len (pa_cons (pv 1) pa_nil)) pa_nil))) (pa_cons (pe_lst pa_nil) pa_nil)) (by rfl))
 (pss_cons (ps_for PassesOwn.never rfl (pi_zip (by rfl) (T.nb _ (by decide)) (pa_cons (pv 3) (pa_cons (pe_slice sl_list (pv 3) (po_some (pe_int)) po_none) pa_nil))) (pg_tup rfl (pgs_cons (pg_name (i := 5) sc_ldue.nd rfl (Or.inl rfl)) (pgs_cons (pg_name (i := 6) sc_ldue.nd rfl (Or.inl rfl)) pgs_nil)))
 (pss_cons (ps_set (i := 7) sc_ldue.nd rfl (Or.inl rfl) (pe_kf (kp_lpiece T) hA hr (by rfl) (pa_cons (pv 0) (pa_cons (pe_slice sl_str (pv 1) (po_some (pv 5)) (po_some (pv 6))) (pa_cons (pv 5) pa_nil)))))
 (pss_cons (ps_if (pt_not (pt_val (pe_callB call_isi (by rfl) (T.nb _ (by decide)) (by decide +kernel) (pa_cons (pv 7) (pa_cons (pe_bltn (v := .ty "list") (by rfl) (T.nb _ (by decide)) (by decide +kernel) rfl) pa_nil)))))
 (pss_one (ps_ret (pv 7))) pss_nil)
 (pss_one (ps_set (i := 4) sc_ldue.nd rfl (Or.inl rfl) (pe_op op_cat (pv 4) (pv 7)))))))
 (pss_one (ps_ret (pe_lst (pa_cons (pe_callTy call_tuple_of (by rfl) (T.nb _ (by decide)) (by decide +kernel) (pa_cons (pv 4) pa_nil)) pa_nil)))))), ?_⟩
    have l4 : z.length ≤ 400 := okL_le hT
    refine ⟨(by show 1 ≤ sizeLine; decide), fun A1 hA1 => ?_⟩
    have q1 : Same H (upd H A1 (.lst [.int 0])) := Same.new hA1
    have g1 : upd H A1 (.lst [.int 0]) A1 = some (.lst [.int 0]) := upd_same
    generalize upd H A1 (.lst [.int 0]) = H1 at q1 g1
    refine ⟨_, rfl, A1, L, _, _, rfl, rfl, g1, q1 _ _ hL, ?_, fun A2 hA2 => ?_⟩
    · rw [List.length_map]
      exact Nat.le_trans (show 1 + ps.length ≤ 11 by omega) (by decide)
    have q2 : Same H (upd H1 A2 (.lst ([.int 0] ++ ps.map fun p : Nat => V.int p))) := q1.trans (Same.new hA2)
    have g2 : upd H1 A2 (.lst ([.int 0] ++ ps.map fun p : Nat => V.int p)) A2 = some (.lst ([.int 0] ++ ps.map fun p : Nat => V.int p)) := upd_same
    generalize upd H1 A2 (.lst ([.int 0] ++ ps.map fun p : Nat => V.int p)) = H2 at q2 g2
    refine ⟨_, rfl, .str z, _, rfl, ⟨Nat.le_trans l4 (by decide), rfl⟩, (by show 1 ≤ sizeLine; decide), fun A3 hA3 => ?_⟩
    have q3 : Same H (upd H2 A3 (.lst [.int (z.length : Nat)])) := q2.trans (Same.new hA3)
    have g2 := upd_new (u := .lst [.int (z.length : Nat)]) hA3 g2
    have g3 : upd H2 A3 (.lst [.int (z.length : Nat)]) A3 = some (.lst [.int (z.length : Nat)]) := upd_same
    generalize upd H2 A3 (.lst [.int (z.length : Nat)]) = H3 at q3 g2 g3
    refine ⟨A2, A3, _, _, rfl, rfl, g2, g3, ?_, fun A4 hA4 => ?_⟩
    · rw [List.length_append, List.length_map]
      exact Nat.le_trans (show 1 + ps.length + 1 ≤ 12 by omega) (by decide)
    have em : ([.int 0] ++ ps.map (fun p : Nat => V.int p) ++ [.int (z.length : Nat)] : List V) = (0 :: (ps ++ [z.length])).map (fun p : Nat => V.int p) := by
      rw [List.map_cons, List.map_append]
      rfl
    rw [em]
    have asc2 := asc.snoc (Nat.zero_le _)
    have le2 : (ps ++ [z.length]).length = ps.length + 1 := by
      rw [List.length_append]
      rfl
    generalize ps ++ [z.length] = es at asc2 le2 k
    have q4 : Same H (upd H3 A4 (.lst ((0 :: es).map fun p : Nat => V.int p))) := q3.trans (Same.new hA4)
    have g4 : upd H3 A4 (.lst ((0 :: es).map fun p : Nat => V.int p)) A4 = some (.lst ((0 :: es).map fun p : Nat => V.int p)) := upd_same
    generalize upd H3 A4 (.lst ((0 :: es).map fun p : Nat => V.int p)) = H4 at q4 g4
    refine ⟨(by show 0 ≤ sizeLine; decide), fun A5 hA5 => ⟨_, _, rfl, ?_⟩⟩
    have q5 : Same H (upd H4 A5 (.lst [])) := q4.trans (Same.new hA5)
    have g4 := upd_new (u := .lst []) hA5 g4
    have g5 : upd H4 A5 (.lst []) A5 = some (.lst (([] : List Str).map V.str)) := upd_same
    generalize upd H4 A5 (.lst []) = H5 at q5 g4 g5
    refine ⟨_, rfl, _, rfl, 1, rfl, A4, _, rfl, SqL.of g4, fun A7 hA7 => ?_⟩
    rw [show (1 : Int) = ((1 : Nat) : Int) from rfl, cut_from, List.map_cons, List.drop_one, List.tail_cons]
    have q6 : Same H (upd H5 A7 (.lst (es.map fun p : Nat => V.int p))) := q5.trans (Same.new hA7)
    have g4 := upd_new (u := .lst (es.map fun p : Nat => V.int p)) hA7 g4
    have g5 := upd_new (u := .lst (es.map fun p : Nat => V.int p)) hA7 g5
    have g7 : upd H5 A7 (.lst (es.map fun p : Nat => V.int p)) A7 = some (.lst (es.map fun p : Nat => V.int p)) := upd_same
    generalize upd H5 A7 (.lst (es.map fun p : Nat => V.int p)) = H6 at q6 g4 g5 g7
    refine ⟨A4, A7, _, _, rfl, SqL.of g4, SqL.of g7, ?_⟩
    refine for_it (walk_zip (K := K) (a := A4) (b := A7) (xs := (0 :: es).map fun p : Nat => V.int p) (ys := es.map fun p : Nat => V.int p) (n := es.length) (by rw [List.length_map, List.length_map, List.length_cons]; omega)) (fun i σ H' => ∃ (B : Addr) (v5 v6 v7 : Option V) (b : Nat) (acc : List Str), σ = [some (.ref q), some (.str z), some (.ref L), some (.ref A4), some (.ref B), v5, v6, v7] ∧ Same H6 H' ∧
      H' B = some (.lst (acc.map V.str)) ∧ acc.length = i ∧ (0 :: es)[i]? = some b ∧ Asc z.length b (es.drop i) ∧ pcs s0 st tl z [] 0 es = pcs s0 st tl z acc b (es.drop i))
      ⟨A5, _, _, _, 0, [], rfl, fun _ _ h => h, g5, rfl, rfl, asc2, rfl⟩ (fun i σ H' _ ⟨_, _, _, _, _, _, _, sm, _⟩ => ⟨SqL.of (sm _ _ g4), SqL.of (sm _ _ g7)⟩) ?_ ?_
    · rintro i xv σ G0 G hi ⟨B, v5, v6, v7, b, acc, rfl, sm, gB, la, hb, ac, ek⟩ ⟨T1, x1, y1, rfl, hT1, rfl, h1, h2⟩
      have h1 : ((0 :: es).map fun p : Nat => V.int p)[i]? = some x1 := h1
      have h2 : (es.map fun p : Nat => V.int p)[i]? = some y1 := h2
      rw [List.getElem?_map, hb] at h1
      obtain rfl : V.int (b : Nat) = x1 := Option.some.inj h1
      rw [List.getElem?_map, List.getElem?_eq_getElem hi] at h2
      obtain rfl : V.int (es[i] : Nat) = y1 := Option.some.inj h2
      have hb2 : (0 :: es)[i + 1]? = some es[i] := by
        rw [List.getElem?_cons_succ, List.getElem?_eq_getElem hi]
      rw [List.drop_eq_getElem_cons hi] at ek ac
      generalize es[i] = e at ek ac hb2
      generalize es.drop (i + 1) = rest at ek ac
      obtain ⟨a1, a2, a3⟩ := ac
      rw [pcs_cons] at ek
      have sm1 : Same H6 (upd G0 T1 (.tup [.int (b : Nat), .int (e : Nat)])) := sm.trans (Same.new hT1)
      have gB := upd_new (u := .tup [.int (b : Nat), .int (e : Nat)]) hT1 gB
      refine ⟨T1, _, rfl, SqT.of upd_same, rfl, _, _, rfl, _, _, rfl, rfl, ?_⟩
      generalize upd G0 T1 (.tup [.int (b : Nat), .int (e : Nat)]) = G1 at sm1 gB
      refine ⟨_, rfl, _, rfl, _, rfl, _, rfl, _, rfl, _, rfl, z, rfl, Nat.le_trans l4 (by decide), _, rfl, q, sub z b e, s0, st, tl, b, rfl, pl.same (q6.trans sm1), ok, okL_sub hT a2 a1, fun v G2 s2 hv => ?_⟩
      rw [← piece_ans hT a2 a1] at hv
      have gB := s2 _ _ gB
      have sm2 := sm1.trans s2
      cases hq : pieceOf s0 st tl z b e with
      | word =>
        rw [hq] at hv
        exact False.elim hv
      | step j q' =>
        rw [hq] at hv ek
        rw [ek] at k
        have kk := k v G2 (q6.trans sm2) hv
        obtain ⟨T2, rfl, g2⟩ := hv
        exact ⟨_, rfl, .ref T2, _, _, _, false, rfl, .ty _, .base (.tup g2), kit_ty (by decide +kernel), _, rfl, iteT ⟨_, rfl, kk⟩⟩
      | tail q' =>
        rw [hq] at hv ek
        rw [ek] at k
        have kk := k v G2 (q6.trans sm2) hv
        obtain ⟨T2, rfl, g2⟩ := hv
        exact ⟨_, rfl, .ref T2, _, _, _, false, rfl, .ty _, .base (.tup g2), kit_ty (by decide +kernel), _, rfl, iteT ⟨_, rfl, kk⟩⟩
      | ok a =>
        rw [hq] at hv ek
        obtain ⟨L2, rfl, g2⟩ := hv
        refine ⟨_, rfl, .ref L2, _, _, _, true, rfl, .ty _, .base (.lst g2), kit_ty (by decide +kernel), _, rfl, iteF ?_⟩
        refine ⟨_, rfl, _, rfl, B, L2, _, _, rfl, rfl, gB, g2, ?_, fun C5 hC5 => ?_⟩
        · rw [List.length_map, la]
          exact Nat.le_trans (show i + 1 ≤ 12 by omega) (by decide)
        refine ⟨C5, _, _, _, e, acc ++ [a], rfl, sm2.trans (Same.new hC5), ?_, by rw [List.length_append, la]; rfl, hb2, a3, ek⟩
        rw [upd_same, List.map_append]
        rfl
    · rintro σ G ⟨B, v5, v6, v7, b, acc, rfl, sm, gB, la, hb, ac, ek⟩
      rw [List.drop_length, pcs_nil] at ek
      rw [ek] at k
      refine ⟨_, rfl, B, _, rfl, .inl ⟨SqL.of gB, fun R hR => ?_⟩⟩
      refine ⟨(by show 1 ≤ sizeLine; decide), fun M hM => ?_⟩
      exact k _ _ (q6.trans (sm.trans ((Same.new hR).trans (Same.new hM)))) ⟨M, R, rfl, upd_same, upd_new hM upd_same⟩
end
end KC
namespace KC
open PySem L2 PyProof.Rows
theorem shiftA_zero (a : Ans) : shiftA 0 a = a := by
  cases a with
  | step i q => show Ans.step (0 + i) q = _; rw [Nat.zero_add]
  | word => rfl
  | tail q => rfl
  | ok a => rfl
theorem lenS_int : ∀ ws : List Str, (ws.map fun w => ((w.length : Nat) : Int)).sum = ((lenS ws : Nat) : Int)
  | [] => rfl
  | w :: ws => by
    rw [List.map_cons, List.sum_cons, lenS_int ws]
    show _ = ((w.length + lenS ws : Nat) : Int)
    omega
/-- what the law tells of a cost -/
def CostV (H : Hp) (v : V) (r : Ans) (r2 : Ans ⊕ List Str) : Prop := match r with
  | .ok a => match r2 with
    | .inr ws => ∃ L, v = .ref L ∧ H L = some (.lst [.int ((lenS ws : Nat) - (a.length : Nat))])
    | .inl x => PieceV H v x
  | x => PieceV H v x
theorem pcs_len {s : Str} {st : List StE} {tl : List (Str × Str)} {z : Str} : ∀ (es : List Nat) (acc : List Str) (b : Nat) (ws : List Str), pcs s st tl z acc b es = .inr ws → ws.length = acc.length + es.length
  | [], acc, b, ws, h => by
    rw [pcs_nil] at h
    rw [← Sum.inr.inj h]
    rfl
  | e :: es, acc, b, ws, h => by
    rw [pcs_cons] at h
    cases hq : pieceOf s st tl z b e with
    | ok w =>
      rw [hq] at h
      have := pcs_len es _ _ _ h
      rw [this]
      simp only [List.length_append, List.length_cons, List.length_nil]
      omega
    | word => rw [hq] at h; cases h
    | step i q => rw [hq] at h; cases h
    | tail q => rw [hq] at h; cases h
theorem piece_len {s w : Str} {st : List StE} {tl : List (Str × Str)} {z : Str} {b e : Nat} (ok : OkParts s st tl) (hz : z.length ≤ 400) (h : pieceOf s st tl z b e = .ok w) : w.length ≤ 5000 := by
  unfold pieceOf at h
  have hl : (sub z b e).length ≤ z.length := cutS_length z _ _
  have fl := fol_len ok.ost (sub z b e).cps.toList "" s 0
  rw [show (sub z b e).cps.toList.length = (sub z b e).length from Array.length_toList] at fl
  generalize fol st "" s (sub z b e).cps.toList 0 = r at h fl
  by_cases hn : r.2.2 < e - b
  · rw [if_pos hn] at h
    cases h
  · rw [if_neg hn] at h
    cases ht : tailOf tl r.2.1 with
    | none => rw [ht] at h; cases h
    | some u =>
      rw [ht] at h
      have lu : u.length ≤ 4 := okL_le (tailOf_ok ht ok.otl)
      have l0 : ("" : Str).length = 0 := rfl
      rw [← Ans.ok.inj h, strLen_append]
      omega
theorem pcs_le {s : Str} {st : List StE} {tl : List (Str × Str)} {z : Str} (ok : OkParts s st tl) (hz : z.length ≤ 400) : ∀ (es : List Nat) (acc : List Str) (b : Nat) (ws : List Str), pcs s st tl z acc b es = .inr ws → (∀ w ∈ acc, w.length ≤ 5000) → ∀ w ∈ ws, w.length ≤ 5000
  | [], acc, b, ws, h, ha => by
    rw [pcs_nil] at h
    rw [← Sum.inr.inj h]
    exact ha
  | e :: es, acc, b, ws, h, ha => by
    rw [pcs_cons] at h
    cases hq : pieceOf s st tl z b e with
    | ok w =>
      rw [hq] at h
      refine pcs_le ok hz es _ _ _ h fun x hx => ?_
      rcases List.mem_append.mp hx with hx | hx
      · exact ha x hx
      · rw [List.mem_singleton.mp hx]
        exact piece_len ok hz hq
    | word => rw [hq] at h; cases h
    | step i q => rw [hq] at h; cases h
    | tail q => rw [hq] at h; cases h
theorem pcs_inl {s : Str} {st : List StE} {tl : List (Str × Str)} {z : Str} : ∀ (es : List Nat) (acc : List Str) (b : Nat) (a : Str), pcs s st tl z acc b es ≠ .inl (.ok a)
  | [], acc, b, a => by
    rw [pcs_nil]
    exact fun h => by cases h
  | e :: es, acc, b, a => by
    rw [pcs_cons]
    cases hq : pieceOf s st tl z b e with
    | ok w => exact pcs_inl es _ _ a
    | word => exact fun h => by cases h
    | step i q => exact fun h => by cases h
    | tail q => exact fun h => by cases h
section
variable {P : Program} {w : World} {K : PySem.W.Frag} {mg : Str → Option Value} {base : Heap}
def spLCost (K : PySem.W.Frag) : Sp := fun vs H Q _ => ∃ (q : Addr) (z s : Str) (st : List StE) (tl : List (Str × Str)) (p : Nat), vs = [.ref q, .str z, .int (p : Nat)] ∧ PlAt K H q s st tl ∧ OkParts s st tl ∧ isTxt z = true ∧ p ≤ z.length ∧
  ∀ v H', Same H H' → CostV H' v (ansOf s st tl z) (pcs s st tl z [] 0 [p, z.length]) → Q v H'
theorem kp_lcostdue (T : Txt K mg) : Kf P w K mg base 5 "_law_cost_due" ["_law_plan_here", "_law_text_here", "_law_at"] (spLCost K) := by
  refine T.d_lcostdue.okF sc_lcostdue (fun vs H Q E h => ?_) (fun f cdv A outer s H vs Q E hA hr h => ?_)
  · obtain ⟨q, z, s, st, tl, p, rfl, _⟩ := h
    rfl
  · obtain ⟨q, z, s0, st, tl, p, rfl, pl, ok, hT, hpz, k⟩ := h
    refine ⟨_, (pss_cons (ps_par (i := 3) (j := 4) (by rfl) sc_lcostdue.nd rfl rfl (by decide) rfl rfl (pa_cons (pe_kf (kp_lpiece T) hA hr (by rfl) (pa_cons (pv 0) (pa_cons (pv 1) (pa_cons (pe_int) pa_nil)))) (pa_cons (pe_kf (kp_ldue T) hA hr (by rfl) (pa_cons (pv 0) (pa_cons (pv 1) (pa_cons (pe_lst (pa_cons (pv 2) pa_nil)) pa_nil)))) pa_nil)) (by rfl))
 (pss_cons (ps_if (pt_not (pt_val (pe_callB call_isi (by rfl) (T.nb _ (by decide)) (by decide +kernel) (pa_cons (pv 3) (pa_cons (pe_bltn (v := .ty "list") (by rfl) (T.nb _ (by decide)) (by decide +kernel) rfl) pa_nil)))))
 (pss_one (ps_ret (pv 3))) pss_nil)
 (pss_one (ps_ret (pe_ifExp (pt_val (pe_callB call_isi (by rfl) (T.nb _ (by decide)) (by decide +kernel) (pa_cons (pv 4) (pa_cons (pe_bltn (v := .ty "list") (by rfl) (T.nb _ (by decide)) (by decide +kernel) rfl) pa_nil)))) (pe_lst (pa_cons (pe_op op_sub (pe_callB (cr_sum rfl) (by rfl) (T.nb _ (by decide)) (by decide +kernel) (pa_cons (pe_lc (own := [("_law_answer_here", 5)]) (g := gName 5) (tt := tYes) rfl sc_lcostdue.nd (pi_tup (pe_ix (ix_list : IxR _ (rIxL K)) (pv 4) (pe_int) (fun _ _ => rfl))) (blkOk_by (N := n_lcostdue) (sc := defScope s_lcostdue) (by decide +kernel)) (fun _ _ _ _ _ => pg_name (i := 5) sc_lcostdue.nd rfl (Or.inl rfl)) (fun _ _ _ _ _ => pts_nil) (fun _ _ _ _ _ => (pe_callB (call_len : CallR _ _ (fun xs H Q => ∃ x n, xs = [x] ∧ LenV K x H n ∧ Q (V.int (n : Nat)) H)) (by rfl) (T.nb _ (by decide)) PySem.boot_len (pa_cons (pv 5) pa_nil)))) pa_nil)) (pe_callB call_len (by rfl) (T.nb _ (by decide)) PySem.boot_len (pa_cons (pe_ix (ix_list : IxR _ (rIxL K)) (pv 3) (pe_int) (fun _ _ => rfl)) pa_nil))) pa_nil)) (pv 4)))))), ?_⟩
    have l4 : z.length ≤ 400 := okL_le hT
    refine ⟨_, rfl, _, rfl, q, z, s0, st, tl, 0, rfl, pl, ok, hT, fun v1 H1 s1 hv1 => ?_⟩
    rw [shiftA_zero] at hv1
    refine ⟨_, rfl, _, rfl, _, rfl, (by show 1 ≤ sizeLine; decide), fun A1 hA1 => ?_⟩
    have q1 : Same H (upd H1 A1 (.lst [.int (p : Nat)])) := s1.trans (Same.new hA1)
    have v1q : PieceV (upd H1 A1 (.lst [.int (p : Nat)])) v1 (ansOf s0 st tl z) := hv1.same (Same.new hA1)
    have g1 : upd H1 A1 (.lst [.int (p : Nat)]) A1 = some (.lst (([p] : List Nat).map fun p : Nat => V.int p)) := upd_same
    generalize upd H1 A1 (.lst [.int (p : Nat)]) = H2 at q1 v1q g1
    refine ⟨q, A1, z, s0, st, tl, [p], rfl, pl.same q1, ok, hT, g1, ⟨Nat.zero_le _, hpz, trivial⟩, (by show 1 ≤ 10; decide), fun v2 H3 s3 hv2 => ?_⟩
    have hv2 : DueV H3 v2 (pcs s0 st tl z [] 0 [p, z.length]) := hv2
    have v1r := v1q.same s3
    have q3 := q1.trans s3
    unfold CostV at k
    cases ha : ansOf s0 st tl z with
    | word =>
      rw [ha] at v1r
      exact False.elim v1r
    | step i e =>
      rw [ha] at v1r k
      have kk := k v1 H3 q3 v1r
      obtain ⟨T2, rfl, g2⟩ := v1r
      exact ⟨_, _, rfl, _, rfl, .ref T2, _, _, _, false, rfl, .ty _, .base (.tup g2), kit_ty (by decide +kernel), _, rfl, iteT ⟨_, rfl, kk⟩⟩
    | tail e =>
      rw [ha] at v1r k
      have kk := k v1 H3 q3 v1r
      obtain ⟨T2, rfl, g2⟩ := v1r
      exact ⟨_, _, rfl, _, rfl, .ref T2, _, _, _, false, rfl, .ty _, .base (.tup g2), kit_ty (by decide +kernel), _, rfl, iteT ⟨_, rfl, kk⟩⟩
    | ok a =>
      rw [ha] at v1r k
      obtain ⟨L1, rfl, g2⟩ := v1r
      have la : a.length ≤ 5000 := ans_len ok ha
      refine ⟨_, _, rfl, _, rfl, .ref L1, _, _, _, true, rfl, .ty _, .base (.lst g2), kit_ty (by decide +kernel), _, rfl, iteF ?_⟩
      cases hp : pcs s0 st tl z [] 0 [p, z.length] with
      | inl x =>
        rw [hp] at hv2 k
        have kk := k v2 H3 q3 hv2
        have nx := pcs_inl (s := s0) (st := st) (tl := tl) (z := z) [p, z.length] [] 0
        rw [hp] at nx
        cases x with
        | word => exact False.elim hv2
        | ok a' => exact absurd rfl (nx a')
        | step i e =>
          obtain ⟨T2, rfl, g3⟩ := hv2
          exact ⟨_, rfl, .ref T2, _, _, _, false, rfl, .ty _, .base (.tup g3), kit_ty (by decide +kernel), _, rfl, iteF ⟨_, rfl, kk⟩⟩
        | tail e =>
          obtain ⟨T2, rfl, g3⟩ := hv2
          exact ⟨_, rfl, .ref T2, _, _, _, false, rfl, .ty _, .base (.tup g3), kit_ty (by decide +kernel), _, rfl, iteF ⟨_, rfl, kk⟩⟩
      | inr ws =>
        rw [hp] at hv2 k
        have lws := pcs_len _ _ _ _ hp
        obtain ⟨L2, T2, rfl, g3, g4⟩ := hv2
        have l2 : ws.length = 2 := lws
        have lw5 := pcs_le ok l4 _ _ _ _ hp fun w hw => by cases hw
        refine ⟨_, rfl, .ref L2, _, _, _, true, rfl, .ty _, .base (.lst g3), kit_ty (by decide +kernel), _, rfl, iteT ?_⟩
        refine ⟨_, rfl, L2, _, 0, .ref T2, rfl, rfl, SqL.of g3, rfl, T2, rfl, ⟨_, SqT.of g4⟩, fun D hD => ?_⟩
        refine lc_it (walk_tup (K := K) (a := T2) (xs := ws.map V.str)) (fun i H' => Same H3 H' ∧ H' D = some (.lst ((ws.take i).map fun w => V.int (w.length : Nat)))) ⟨Same.new hD, upd_same⟩ (fun i H' _ p => SqT.of (p.1 _ _ g4)) ?_ ?_
        · rintro j x G0 G1 hj ⟨sm, gD⟩ ⟨rfl, hx⟩
          rw [List.length_map] at hj
          rw [List.getElem?_map, List.getElem?_eq_getElem hj] at hx
          obtain rfl : V.str ws[j] = x := Option.some.inj hx
          have lj := lw5 _ (List.getElem_mem hj)
          refine ⟨rfl, ?_⟩
          dsimp only [tYes]
          rw [if_pos rfl]
          refine ⟨_, rfl, .str ws[j], _, rfl, ⟨Nat.le_trans lj (by decide), rfl⟩, _, gD, ?_, fun b o eb => upd_oth (fun z => by rw [z, hD] at eb; cases eb) (sm _ _ eb), ?_⟩
          · rw [List.length_map, List.length_take]
            exact Nat.lt_of_le_of_lt (show _ ≤ 2 by omega) (by decide)
          · rw [upd_same, List.take_add_one, List.getElem?_eq_getElem hj, List.map_append]
            rfl
        · rintro G ⟨sm, gD⟩
          rw [List.length_map, List.take_length] at gD
          refine ⟨D, ws.map fun w => ((w.length : Nat) : Int), rfl, SqL.of (by rw [gD, List.map_map]; rfl), ?_⟩
          rw [lenS_int]
          refine ⟨_, rfl, L1, _, 0, .str a, rfl, rfl, SqL.of (sm _ _ g2), rfl, .str a, _, rfl, ⟨Nat.le_trans la (by decide), rfl⟩, _, _, rfl, rfl, (by show 1 ≤ sizeLine; decide), fun M hM => ?_⟩
          exact k _ _ (q3.trans (sm.trans (Same.new hM))) ⟨M, rfl, upd_same⟩
end
end KC
namespace KC
open PySem L2 PyProof.Rows
theorem okL_app {a b : Nat} {x y : Str} (hx : okL 0 a x = true) (hy : okL 0 b y = true) : okL 0 (a + b) (x ++ y) = true := by
  have lx := okL_le hx
  have ly := okL_le hy
  unfold okL at hx hy ⊢
  simp only [Bool.and_eq_true, decide_eq_true_eq, List.all_eq_true] at hx hy ⊢
  refine ⟨Nat.zero_le _, by rw [strLen_append]; omega, fun c hc => ?_⟩
  rw [app_list] at hc
  rcases List.mem_append.mp hc with h | h
  · exact hx.2.2 c h
  · exact hy.2.2 c h
theorem okL_mono {a b : Nat} {x : Str} (hx : okL 0 a x = true) (h : a ≤ b) : okL 0 b x = true := by
  have lx := okL_le hx
  unfold okL at hx ⊢
  simp only [Bool.and_eq_true, decide_eq_true_eq, List.all_eq_true] at hx ⊢
  exact ⟨Nat.zero_le _, by omega, hx.2.2⟩
theorem fol_ok {st : List StE} (ok : ∀ e ∈ st, okStep e) : ∀ (cs : List Nat) (w s : Str) (n B : Nat), okL 0 B w = true → isName s = true → okL 0 (B + 4 * cs.length) (fol st w s cs n).1 = true ∧ isName (fol st w s cs n).2.1 = true
  | [], w, s, n, B, hw, hs => ⟨hw, hs⟩
  | c :: cs, w, s, n, B, hw, hs => by
    unfold fol
    cases e : stepOf st s ⟨#[c]⟩ with
    | none => exact ⟨okL_mono hw (by omega), hs⟩
    | some p =>
      obtain ⟨a, to⟩ := p
      dsimp only
      obtain ⟨h1, h2⟩ := stepOf_ok e ok
      obtain ⟨i1, i2⟩ := fol_ok ok cs (w ++ a) to (n + 1) (B + 4) (okL_app hw h1) h2
      refine ⟨okL_mono i1 (by rw [List.length_cons]; omega), i2⟩
/-- an outcome that can be told -/
def OkA : Ans → Prop
  | .step _ q => isName q = true
  | .tail q => isName q = true
  | .ok w => okL 0 5000 w = true
  | .word => True
theorem piece_ok {s : Str} {st : List StE} {tl : List (Str × Str)} {z : Str} (ok : OkParts s st tl) (hz : z.length ≤ 400) (b e : Nat) : OkA (pieceOf s st tl z b e) := by
  unfold pieceOf
  have hl : (sub z b e).length ≤ z.length := cutS_length z _ _
  obtain ⟨f1, f2⟩ := fol_ok ok.ost (sub z b e).cps.toList "" s 0 0 (by decide +kernel) ok.os
  rw [show (sub z b e).cps.toList.length = (sub z b e).length from Array.length_toList] at f1
  generalize fol st "" s (sub z b e).cps.toList 0 = r at f1 f2
  by_cases hn : r.2.2 < e - b
  · rw [if_pos hn]
    exact f2
  · rw [if_neg hn]
    cases ht : tailOf tl r.2.1 with
    | none => exact f2
    | some u => exact okL_mono (okL_app f1 (tailOf_ok ht ok.otl)) (by omega)
theorem ans_okA {s : Str} {st : List StE} {tl : List (Str × Str)} {z : Str} (ok : OkParts s st tl) (hT : isTxt z = true) : OkA (ansOf s st tl z) := by
  have hz := okL_le hT
  unfold ansOf
  rw [if_pos hT]
  obtain ⟨f1, f2⟩ := fol_ok ok.ost z.cps.toList "" s 0 0 (by decide +kernel) ok.os
  rw [show z.cps.toList.length = z.length from Array.length_toList] at f1
  generalize fol st "" s z.cps.toList 0 = r at f1 f2
  by_cases hn : r.2.2 < z.length
  · rw [if_pos hn]
    exact f2
  · rw [if_neg hn]
    cases ht : tailOf tl r.2.1 with
    | none => exact f2
    | some u => exact okL_mono (okL_app f1 (tailOf_ok ht ok.otl)) (by omega)
def OkR : Ans ⊕ List Str → Prop
  | .inl a => OkA a
  | .inr ws => ∀ w ∈ ws, okL 0 5000 w = true
theorem pcs_ok {s : Str} {st : List StE} {tl : List (Str × Str)} {z : Str} (ok : OkParts s st tl) (hz : z.length ≤ 400) : ∀ (es : List Nat) (acc : List Str) (b : Nat), (∀ w ∈ acc, okL 0 5000 w = true) → OkR (pcs s st tl z acc b es)
  | [], acc, b, ha => ha
  | e :: es, acc, b, ha => by
    rw [pcs_cons]
    have hp := piece_ok ok hz b e
    cases hq : pieceOf s st tl z b e with
    | ok w =>
      rw [hq] at hp
      refine pcs_ok ok hz es _ _ fun x hx => ?_
      rcases List.mem_append.mp hx with hx | hx
      · exact ha x hx
      · rw [List.mem_singleton.mp hx]
        exact hp
    | word => exact trivial
    | step i q => rw [hq] at hp; exact hp
    | tail q => rw [hq] at hp; exact hp
theorem piece_nw {s : Str} {st : List StE} {tl : List (Str × Str)} {z : Str} (b e : Nat) : pieceOf s st tl z b e ≠ .word := by
  unfold pieceOf
  generalize fol st "" s (sub z b e).cps.toList 0 = r
  by_cases hn : r.2.2 < e - b
  · rw [if_pos hn]
    exact fun h => by cases h
  · rw [if_neg hn]
    cases ht : tailOf tl r.2.1 with
    | none => exact fun h => by cases h
    | some u => exact fun h => by cases h
theorem ans_nw {s : Str} {st : List StE} {tl : List (Str × Str)} {z : Str} (hT : isTxt z = true) : ansOf s st tl z ≠ .word := by
  unfold ansOf
  rw [if_pos hT]
  generalize fol st "" s z.cps.toList 0 = r
  by_cases hn : r.2.2 < z.length
  · rw [if_pos hn]
    exact fun h => by cases h
  · rw [if_neg hn]
    cases ht : tailOf tl r.2.1 with
    | none => exact fun h => by cases h
    | some u => exact fun h => by cases h
theorem pcs_nw {s : Str} {st : List StE} {tl : List (Str × Str)} {z : Str} : ∀ (es : List Nat) (acc : List Str) (b : Nat), pcs s st tl z acc b es ≠ .inl .word
  | [], acc, b => by
    rw [pcs_nil]
    exact fun h => by cases h
  | e :: es, acc, b => by
    rw [pcs_cons]
    have hn := piece_nw (s := s) (st := st) (tl := tl) (z := z) b e
    cases hq : pieceOf s st tl z b e with
    | ok w => exact pcs_nw es _ _
    | word => exact absurd hq hn
    | step i q => exact fun h => by cases h
    | tail q => exact fun h => by cases h
/-- the data of an outcome -/
def pieceD : Ans → PyData
  | .step i q => .tuple [.str "step", .int (i : Nat), .str q]
  | .tail q => .tuple [.str "tail", .str q]
  | .ok a => .list [.str a]
  | .word => .none
def resD : Ans ⊕ List Str → PyData
  | .inl a => pieceD a
  | .inr ws => .list [.tuple (ws.map PyData.str)]
def costD (r : Ans) (r2 : Ans ⊕ List Str) : PyData := match r with
  | .ok a => match r2 with
    | .inr ws => .list [.int ((lenS ws : Nat) - (a.length : Nat))]
    | .inl x => pieceD x
  | x => pieceD x
theorem flat_step (i : Nat) {q : Str} (h : PyData.strOk q = true) : FlatAll [.str "step", .int (i : Nat), .str q] [.str "step", .int (i : Nat), .str q] := .cons (.str _ (by decide +kernel)) (.cons (.int _) (.cons (.str _ h) .nil))
theorem flat_two {x y : Str} (h1 : PyData.strOk x = true) (h : PyData.strOk y = true) : FlatAll [.str x, .str y] [.str x, .str y] := .cons (.str _ h1) (.cons (.str _ h) .nil)
theorem PieceV.lay {H : Hp} {v : V} {a : Ans} (h : PieceV H v a) (ok : OkA a) : Lay H v (pieceD a) := by
  cases a with
  | word => exact False.elim h
  | step i q => obtain ⟨T, e, g⟩ := h; exact .inl ⟨T, _, _, e, g, flat_step i (ok_let ok), rfl⟩
  | tail q => obtain ⟨T, e, g⟩ := h; exact .inl ⟨T, _, _, e, g, flat_two (by decide +kernel) (ok_let ok), rfl⟩
  | ok a => obtain ⟨T, e, g⟩ := h; exact .inr (.inr ⟨T, _, _, e, g, .cons (.str _ (ok_let ok)) .nil, rfl⟩)
theorem DueV.lay {H : Hp} {v : V} {r : Ans ⊕ List Str} (h : DueV H v r) (ok : OkR r) : Lay H v (resD r) := by
  cases r with
  | inl a => exact PieceV.lay h ok
  | inr ws => obtain ⟨L, T, e, g1, g2⟩ := h; exact .inr (.inl ⟨L, T, _, _, e, g1, g2, flat_strs fun w hw => ok_let (ok w hw), rfl⟩)
theorem CostV.lay {H : Hp} {v : V} {r : Ans} {r2 : Ans ⊕ List Str} (h : CostV H v r r2) (ok : OkA r) (ok2 : OkR r2) : Lay H v (costD r r2) := by
  cases r with
  | ok a =>
    cases r2 with
    | inl x => exact PieceV.lay h ok2
    | inr ws => obtain ⟨L, e, g⟩ := h; exact .inr (.inr ⟨L, _, _, e, g, .cons (.int _) .nil, rfl⟩)
  | word => exact False.elim h
  | step i q => exact PieceV.lay (a := .step i q) h ok
  | tail q => exact PieceV.lay (a := .tail q) h ok
/-- what is heard: a new value of this data -/
def NewAt (d : PyData) (H : Hp) (Q : VK) : Prop := ∀ v H', Same H H' → Lay H' v d → (∃ a, v = .ref a ∧ H a = none) → Q v H'
theorem ShwE.ext {K : PySem.W.Frag} {H H' : Hp} {v : V} {t : Str} (h : ShwE K H v t) (s : Same H H') : ShwE K H' v t := fun H2 s2 => h H2 (s.trans s2)
/-- what is asked of a converter and a text, and what is heard -/
def AskP (K : PySem.W.Frag) (mg : Str → Option Value) (H : Hp) (v wv : V) (d : PyData) (G : Str → List StE → List (Str × Str) → Str → Prop) : Prop :=
  (BadC K (gC mg) H v ∧ d = .tuple [.str "converter", .str "converter"]) ∨
  ∃ (x : Addr) (s : Str) (st : List StE) (tl : List (Str × Str)), v = .ref x ∧ CvAt K (gC mg) H x s st tl ∧ OkParts s st tl ∧
    ((∃ t, BadW K H wv ∧ ShwE K H wv t ∧ PyData.strOk t = true ∧ d = .tuple [.str "word", .str t]) ∨ (∃ z : Str, wv = .str z ∧ isTxt z = true ∧ G s st tl z))
/-- an outcome of places -/
def PlcG (K : PySem.W.Frag) (H : Hp) (qv : List V) (d : PyData) : Str → List StE → List (Str × Str) → Str → Prop := fun s st tl z =>
  (∃ u t, Pls K H z.length 0 qv (some u) ∧ ShwE K H u t ∧ PyData.strOk t = true ∧ d = .tuple [.str "number", .str t]) ∨
  (∃ ps : List Nat, qv = ps.map (fun p : Nat => V.int p) ∧ Asc z.length 0 ps ∧ d = resD (pcs s st tl z [] 0 (ps ++ [z.length])))
def CstG (K : PySem.W.Frag) (H : Hp) (u : V) (d : PyData) : Str → List StE → List (Str × Str) → Str → Prop := fun s st tl z =>
  ((∀ a, ansOf s st tl z ≠ .ok a) ∧ d = pieceD (ansOf s st tl z)) ∨ (∃ a, ansOf s st tl z = .ok a ∧
    ((∃ t, BadPl K H 0 z.length u ∧ ShwE K H u t ∧ PyData.strOk t = true ∧ d = .tuple [.str "number", .str t]) ∨
     (∃ p : Nat, u = .int p ∧ p ≤ z.length ∧ d = costD (.ok a) (pcs s st tl z [] 0 [p, z.length]))))
theorem Asc.pls {K : PySem.W.Frag} {H : Hp} {n : Nat} : ∀ {l : Nat} {ps : List Nat}, Asc n l ps → Pls K H n l (ps.map fun p : Nat => V.int p) none
  | l, [], _ => .nil l
  | l, p :: ps, ⟨a, b, c⟩ => .ok a b (Asc.pls c)
section
variable {K : PySem.W.Frag} {mg : Str → Option Value} {H : Hp} {Q : VK} {d : PyData}
/-- an error that is told, heard -/
theorem tell {H' : Hp} (sm : Same H H') (k : NewAt d H Q) (x : Str) (fs : List (Str × V)) (xs : List V) (ds : List PyData) (hf : FlatAll xs ds) (hd : d = .tuple ds)
    (hx : ∀ dd H2, Same H H2 → H2 dd = some (.xd fs) → (OutV xs H2 Q → EEh K mg Q (.ref (adr mg x)) (some dd) H2)) : Told mg H' (EEh K mg Q) x fs := by
  intro dd H2 hdd s2 e2
  refine hx dd H2 (sm.trans s2) e2 fun T H3 hT s3 e3 => ?_
  exact k (.ref T) H3 ((sm.trans s2).trans s3) (.inl ⟨T, xs, ds, rfl, e3, hf, hd⟩) ⟨T, rfl, (sm.trans s2).free hT⟩
theorem tellA {H' : Hp} (sm : Same H H') {a : Ans} (ok : OkA a) (k : NewAt (pieceD a) H Q) (hw : a ≠ .word) {OK : Str → Prop} (hk : ∀ w, a = .ok w → OK w) : ToldA mg H' (EEh K mg Q) a OK := by
  cases a with
  | word => exact absurd rfl hw
  | step i q => exact tell sm k "NoStep" _ _ _ (flat_step i (ok_let ok)) rfl fun dd H2 s2 e2 out => ⟨_, dd, _, rfl, rfl, e2, .inl ⟨rfl, _, _, rfl, rfl, out⟩⟩
  | tail q => exact tell sm k "NoTail" _ _ _ (flat_two (by decide +kernel) (ok_let ok)) rfl fun dd H2 s2 e2 out => ⟨_, dd, _, rfl, rfl, e2, .inr (.inl ⟨rfl, _, rfl, out⟩)⟩
  | ok w => exact hk w rfl
theorem tellN {H' : Hp} (sm : Same H H') {u : V} {t : Str} (sh : ShwE K H u t) (so : PyData.strOk t = true) (k : NewAt (.tuple [.str "number", .str t]) H Q) : Told mg H' (EEh K mg Q) "BadNumber" [("value", u)] :=
  tell sm k "BadNumber" _ _ _ (flat_two (by decide +kernel) so) rfl fun dd H2 s2 e2 out => ⟨_, dd, _, rfl, rfl, e2, .inr (.inr (.inl ⟨rfl, u, t, rfl, sh.ext s2, out⟩))⟩
/-- the errors ahead, heard -/
theorem pre_heard {H' : Hp} {v wv : V} {G : Str → List StE → List (Str × Str) → Str → Prop} {OK : Addr → Str → List StE → List (Str × Str) → Str → Prop} (sm : Same H H') (h : AskP K mg H v wv d G) (k : NewAt d H Q)
    (m : ∀ x s st tl z, CvAt K (gC mg) H' x s st tl → OkParts s st tl → isTxt z = true → G s st tl z → OK x s st tl z) : PreP K mg v wv H' (EEh K mg Q) OK := by
  rcases h with ⟨hb, rfl⟩ | ⟨x, s, st, tl, rfl, cv, ok, h⟩
  · exact .inl ⟨hb.same sm, tell sm k "BadConverter" _ _ _ (flat_two (by decide +kernel) (by decide +kernel)) rfl fun dd H2 s2 e2 out => ⟨_, dd, _, rfl, rfl, e2, .inr (.inr (.inr (.inr ⟨rfl, _, rfl, out⟩)))⟩⟩
  · refine .inr ⟨x, s, st, tl, rfl, cv.same sm, ok, ?_⟩
    rcases h with ⟨t, hb, sh, so, rfl⟩ | ⟨z, rfl, hT, h⟩
    · exact .inl ⟨hb.same sm, tell sm k "BadWord" _ _ _ (flat_two (by decide +kernel) so) rfl fun dd H2 s2 e2 out => ⟨_, dd, _, rfl, rfl, e2, .inr (.inr (.inr (.inl ⟨rfl, wv, t, rfl, sh.ext s2, out⟩)))⟩⟩
    · exact .inr ⟨z, rfl, hT, m x s st tl z (cv.same sm) ok hT h⟩
theorem told_pieces {v wv : V} {qv : List V} (hl : qv.length ≤ 20) (h : AskP K mg H v wv d (PlcG K H qv d)) (k : NewAt d H Q) {H' : Hp} {R : VK} (sm : Same H H')
    (hR : ∀ v H1, (∀ L H2, H1 L = none → Same H1 H2 → H2 L = some (.lst [v]) → Q (.ref L) H2) → R v H1) : spPcs K mg (v :: wv :: qv) H' R (EEh K mg Q) := by
  refine ⟨v, wv, qv, rfl, hl, pre_heard sm h k fun x s st tl z cv ok hT g => ?_⟩
  have hz := okL_le hT
  rcases g with ⟨u, t, hp, sh, so, rfl⟩ | ⟨ps, rfl, asc, rfl⟩
  · exact ⟨some u, hp.same sm, tellN sm sh so k⟩
  · refine ⟨none, asc.pls, fun ps' e' _ => ?_⟩
    obtain rfl : ps = ps' := by
      have inj : ∀ (a b : List Nat), a.map (fun p : Nat => V.int p) = b.map (fun p : Nat => V.int p) → a = b := by
        intro a
        induction a with
        | nil => intro b h; cases b with | nil => rfl | cons _ _ => cases h
        | cons x a ih =>
          intro b h
          cases b with
          | nil => cases h
          | cons y b =>
            have := List.cons.inj h
            rw [Int.ofNat.inj (V.int.inj this.1), ih b this.2]
      exact inj _ _ e'
    have okr := pcs_ok ok hz (ps ++ [z.length]) [] 0 fun w hw => by cases hw
    have nx := pcs_inl (s := s) (st := st) (tl := tl) (z := z) (ps ++ [z.length]) [] 0
    cases hr : pcs s st tl z [] 0 (ps ++ [z.length]) with
    | inl a =>
      rw [hr] at k okr nx
      have nw := pcs_nw (s := s) (st := st) (tl := tl) (z := z) (ps ++ [z.length]) [] 0
      rw [hr] at nw
      exact tellA sm okr k (fun e => nw (by rw [e])) fun w e => absurd (by rw [e]) (nx w)
    | inr ws =>
      rw [hr] at k okr
      refine fun _ _ T H2 s2 gT => hR _ _ fun L H3 hL s3 gL => ?_
      exact k (.ref L) H3 ((sm.trans s2).trans s3) (.inr (.inl ⟨L, T, _, _, rfl, gL, s3 _ _ gT, flat_strs fun w hw => ok_let (okr w hw), rfl⟩)) ⟨L, rfl, (sm.trans s2).free hL⟩
theorem told_cost {v wv u : V} (h : AskP K mg H v wv d (CstG K H u d)) (k : NewAt d H Q) {H' : Hp} {R : VK} (sm : Same H H')
    (hR : ∀ v H1, (∀ L H2, H1 L = none → Same H1 H2 → H2 L = some (.lst [v]) → Q (.ref L) H2) → R v H1) : spCost K mg [v, wv, u] H' R (EEh K mg Q) := by
  refine ⟨v, wv, u, rfl, pre_heard sm h k fun x s st tl z cv ok hT g => ?_⟩
  have hz := okL_le hT
  have oka := ans_okA ok hT
  have nwa := ans_nw (s := s) (st := st) (tl := tl) hT
  show ToldA mg H' (EEh K mg Q) (ansOf s st tl z) _
  rcases g with ⟨na, rfl⟩ | ⟨a, ea, g⟩
  · exact tellA sm oka k nwa fun w e => absurd e (na w)
  rw [ea] at oka ⊢
  rcases g with ⟨t, hb, sh, so, rfl⟩ | ⟨p, rfl, hp, rfl⟩
  · exact .inl ⟨hb.same sm, tellN sm sh so k⟩
  · refine .inr ⟨p, rfl, hp, ?_⟩
    have okr := pcs_ok ok hz [p, z.length] [] 0 fun w hw => by cases hw
    have nx := pcs_inl (s := s) (st := st) (tl := tl) (z := z) [p, z.length] [] 0
    have nw := pcs_nw (s := s) (st := st) (tl := tl) (z := z) [p, z.length] [] 0
    cases hr : pcs s st tl z [] 0 [p, z.length] with
    | inl a' =>
      rw [hr] at k okr nx nw
      exact tellA sm okr k (fun e => nw (by rw [e])) fun w e => absurd (by rw [e]) (nx w)
    | inr ws =>
      rw [hr] at k okr
      refine fun H2 s2 => hR _ _ fun L H3 hL s3 gL => ?_
      exact k (.ref L) H3 ((sm.trans s2).trans s3) (.inr (.inr ⟨L, _, _, rfl, gL, .cons (.int _) .nil, rfl⟩)) ⟨L, rfl, (sm.trans s2).free hL⟩
end
end KC
namespace KC
open PySem L2 PyProof.Rows
/-- the names under which lambdas stand -/
def tabs (PC PL : Addr) : List (Addr × Str) := [(PC, "_law_cut.<locals>.<lambda>"), (PL, "law.<locals>.<lambda>")]
section
variable {P : Program} {w : World} {K : PySem.W.Frag} {mg : Str → Option Value} {base : Heap}
def spCut (K : PySem.W.Frag) (mg : Str → Option Value) (PC PL : Addr) : Sp := fun vs H Q _ => ∃ (x L : Addr) (z s : Str) (st : List StE) (tl : List (Str × Str)) (ps : List Nat), vs = [.ref x, .str z, .ref L] ∧ CvAt K (gC mg) H x s st tl ∧ OkParts s st tl ∧ isTxt z = true ∧
  H L = some (.lst (ps.map fun p : Nat => V.int p)) ∧ Asc z.length 0 ps ∧ ps.length ≤ 3 ∧ LamX.Tabs (tabs PC PL) H ∧
  ∀ v H', LamX.ExtN H H' → LamX.Tabs (tabs PC PL) H' → Lay H' v (resD (pcs s st tl z [] 0 (ps ++ [z.length]))) → Q v H'
theorem kp_cut (TA : TxA K mg) (TS : TxS K mg) (TH : TxH K mg) (RZ : ∀ base, ErrR P w K mg base) {PC PL : Addr} (ne : PC ≠ PL) (OC : OwnC K mg base "_law_cut" s_lcut ["_law_made_here", "_law_text_here", "_law_places"] PC) :
    Kp P w K mg base 9 "_law_cut" ["_law_made_here", "_law_text_here", "_law_places"] (spCut K mg PC PL) := by
  have TM := TA.M
  have T := TM.C.T
  have RZ := RZ base
  refine OC.ok sc_lcut (fun vs H Q E h => ?_) (fun f c A outer s H vs Q E TB hA hr h => ?_)
  · obtain ⟨x, L, z, s, st, tl, ps, rfl, _⟩ := h
    rfl
  · obtain ⟨x, L, z, s0, st, tl, ps, rfl, cv, ok, hT, hL, asc, lp, tb, k⟩ := h
    have hmT : (PC, (cxOf CX0 P w K mg base n_lcut "_law_cut" (defScope s_lcut) f (.ref c) A outer s H E).nox.env.qual ++ "<lambda>") ∈ tabs PC PL := List.mem_cons_self
    have huT : ∀ q ∈ tabs PC PL, q.1 = PC → q.2 = (cxOf CX0 P w K mg base n_lcut "_law_cut" (defScope s_lcut) f (.ref c) A outer s H E).nox.env.qual ++ "<lambda>" := by
      intro q hq e
      rcases List.mem_cons.mp hq with rfl | hq
      · rfl
      · rcases List.mem_cons.mp hq with rfl | hq
        · exact absurd e.symm ne
        · cases hq
    refine ⟨_, (pss_cons (ps_if (pt_cmpR op_lt (pe_callB call_len (by rfl) (T.nb _ (by decide)) PySem.boot_len (pa_cons (pv 2) pa_nil)) (pe_int) (nomark _))
 (pss_one (ps_ret (pe_heard TH hA hr (by rfl) TB rfl hmT huT (LamX.lamS_by (sc := defScope s_lcut) (by decide +kernel)) (by rfl) (fun _ _ _ _ _ => by rfl) (fun A outer s H E f c' hr2 => (pe_ifExp (pt_cmpR (op_eqD hr2.units : OpR _ _ (rEqD K)) (pv 2) (pe_lst pa_nil) (nomark _)) (pe_kfS (kp_pieces TA TS RZ) hr2 (passes_call (takes_of rfl rfl rfl rfl) (fun _ _ _ _ h => h)) (by rfl) (pa_cons (pv 0) (pa_cons (pv 1) pa_nil))) (pe_kfS (kp_pieces TA TS RZ) hr2 (passes_call (takes_of rfl rfl rfl rfl) (fun _ _ _ _ h => h)) (by rfl) (pa_cons (pv 0) (pa_cons (pv 1) (pa_cons (pe_ix (ix_list : IxR _ (rIxL K)) (pv 2) (pe_int) (fun _ _ => rfl)) pa_nil))))))))) pss_nil)
 (pss_cons (ps_if (pt_cmpR op_eq (pe_callB call_len (by rfl) (T.nb _ (by decide)) PySem.boot_len (pa_cons (pv 2) pa_nil)) (pe_int) (nomark _))
 (pss_one (ps_ret (pe_heard TH hA hr (by rfl) TB rfl hmT huT (LamX.lamS_by (sc := defScope s_lcut) (by decide +kernel)) (by rfl) (fun _ _ _ _ _ => by rfl) (fun A outer s H E f c' hr2 => (pe_kfS (kp_pieces TA TS RZ) hr2 (passes_call (takes_of rfl rfl rfl rfl) (fun _ _ _ _ h => h)) (by rfl) (pa_cons (pv 0) (pa_cons (pv 1) (pa_cons (pe_ix (ix_list : IxR _ (rIxL K)) (pv 2) (pe_int) (fun _ _ => rfl)) (pa_cons (pe_ix (ix_list : IxR _ (rIxL K)) (pv 2) (pe_int) (fun _ _ => rfl)) pa_nil))))))))) pss_nil)
 (pss_one (ps_ret (pe_heard TH hA hr (by rfl) TB rfl hmT huT (LamX.lamS_by (sc := defScope s_lcut) (by decide +kernel)) (by rfl) (fun _ _ _ _ _ => by rfl) (fun A outer s H E f c' hr2 => (pe_kfS (kp_pieces TA TS RZ) hr2 (passes_call (takes_of rfl rfl rfl rfl) (fun _ _ _ _ h => h)) (by rfl) (pa_cons (pv 0) (pa_cons (pv 1) (pa_cons (pe_ix (ix_list : IxR _ (rIxL K)) (pv 2) (pe_int) (fun _ _ => rfl)) (pa_cons (pe_ix (ix_list : IxR _ (rIxL K)) (pv 2) (pe_int) (fun _ _ => rfl)) (pa_cons (pe_ix (ix_list : IxR _ (rIxL K)) (pv 2) (pe_int) (fun _ _ => rfl)) pa_nil)))))))))))), ?_⟩
    have go : ∀ (H1 H' : Hp) (R : VK), LamX.ExtN H H1 → LamX.Tabs (tabs PC PL) H1 → Same H1 H' → (∀ v H1, (∀ L H2, H1 L = none → Same H1 H2 → H2 L = some (.lst [v]) → Q (.ref L) H2) → R v H1) → spPcs K mg (.ref x :: .str z :: ps.map fun p : Nat => V.int p) H' R (EEh K mg Q) := by
      intro H1 H' R m1 tb1 sm hR
      refine told_pieces (by rw [List.length_map]; omega) (.inr ⟨x, s0, st, tl, rfl, CvAt.extN cv m1, ok, .inr ⟨z, rfl, hT, .inr ⟨ps, rfl, asc, rfl⟩⟩⟩) (fun v H2 s2 lay fr => ?_) sm hR
      exact k v H2 (m1.trans (extN_same s2)) (tb1.ext s2) lay
    have at_ : ∀ (H1 H' : Hp), LamX.ExtN H H1 → Same H1 H' → SqL K H' L (ps.map fun p : Nat => V.int p) := fun H1 H' m1 sm => SqL.of (sm _ _ (m1 _ _ hL fun _ z => by cases z))
    refine ⟨_, rfl, .ref L, _, rfl, len_lst hL, _, _, rfl, rfl, _, rfl, ?_⟩
    rw [List.length_map]
    rcases ps with _ | ⟨a, _ | ⟨b, _ | ⟨c3, _ | ⟨e, r⟩⟩⟩⟩
    · rw [show decide ((([] : List Nat).length : Int) < 2) = true from rfl]
      refine iteT ⟨tb, fun H1 m1 tb1 H' R sm hR => ?_⟩
      refine ⟨_, rfl, (by show 0 ≤ sizeLine; decide), fun N hN => ?_⟩
      have s2 := sm.trans (Same.new (u := .lst []) hN)
      refine ⟨_, _, .lst (at_ H1 _ m1 s2) .nil, .lst (SqL.of upd_same) .nil, by decide +kernel, by decide +kernel, _, rfl, ?_⟩
      rw [show PyData.eqv (.list []) (.list []) = true by decide +kernel]
      exact iteT ⟨_, rfl, _, rfl, go H1 _ R m1 tb1 s2 hR⟩
    · rw [show decide ((([a] : List Nat).length : Int) < 2) = true from rfl]
      refine iteT ⟨tb, fun H1 m1 tb1 H' R sm hR => ?_⟩
      refine ⟨_, rfl, (by show 0 ≤ sizeLine; decide), fun N hN => ?_⟩
      have s2 := sm.trans (Same.new (u := .lst []) hN)
      refine ⟨_, _, .lst (at_ H1 _ m1 s2) (.cons (.int (a : Nat)) .nil), .lst (SqL.of upd_same) .nil, by simp [SeqAt.shaped, PyData.canLay0, PyData.canLayAll0, PyData.depth, PyData.depthAll], by decide +kernel, _, rfl, ?_⟩
      rw [show PyData.eqv (.list [.int (a : Nat)]) (.list []) = false by simp [PyData.eqv, PyData.eqvAll]]
      exact iteF ⟨_, rfl, _, rfl, _, rfl, L, _, 0, _, rfl, rfl, at_ H1 _ m1 s2, rfl, go H1 _ R m1 tb1 s2 hR⟩
    · rw [show decide ((([a, b] : List Nat).length : Int) < 2) = false from rfl]
      refine iteF ?_
      refine ⟨_, rfl, .ref L, _, rfl, len_lst hL, rfl, _, rfl, ?_⟩
      rw [List.length_map, show decide (V.int (([a, b] : List Nat).length : Int) = V.int 2) = true from rfl]
      refine iteT ⟨tb, fun H1 m1 tb1 H' R sm hR => ?_⟩
      exact ⟨_, rfl, _, rfl, _, rfl, L, _, 0, _, rfl, rfl, at_ H1 _ m1 sm, rfl, _, rfl, L, _, 1, _, rfl, rfl, at_ H1 _ m1 sm, rfl, go H1 _ R m1 tb1 sm hR⟩
    · rw [show decide ((([a, b, c3] : List Nat).length : Int) < 2) = false from rfl]
      refine iteF ?_
      refine ⟨_, rfl, .ref L, _, rfl, len_lst hL, rfl, _, rfl, ?_⟩
      rw [List.length_map, show decide (V.int (([a, b, c3] : List Nat).length : Int) = V.int 2) = false from rfl]
      refine iteF ⟨tb, fun H1 m1 tb1 H' R sm hR => ?_⟩
      exact ⟨_, rfl, _, rfl, _, rfl, L, _, 0, _, rfl, rfl, at_ H1 _ m1 sm, rfl, _, rfl, L, _, 1, _, rfl, rfl, at_ H1 _ m1 sm, rfl, _, rfl, L, _, 2, _, rfl, rfl, at_ H1 _ m1 sm, rfl, go H1 _ R m1 tb1 sm hR⟩
    · exact absurd lp (by simp)
end
end KC
namespace KC
open PySem L2 PyProof.Rows
theorem CvAt.but {K : PySem.W.Frag} {C : Addr} {H H' : Hp} {p x : Addr} {s : Str} {st : List StE} {tl : List (Str × Str)} (h : CvAt K C H x s st tl) (hp : ∃ xs, H p = some (.lst xs)) (m : But p H H') : CvAt K C H' x s st tl := by
  obtain ⟨xs, hp⟩ := hp
  have f : ∀ {b : Addr} {o : HO}, H b = some o → (∀ xs, o ≠ .lst xs) → H' b = some o := fun {b o} e n => m _ (fun z => by rw [z, hp] at e; exact n _ (Option.some.inj e).symm) _ e
  obtain ⟨dx, ss, ls, d, t, ys, zs, h1, h2, h3, h4, h5, h6, h7, h8, h9, h10⟩ := h
  exact ⟨dx, ss, ls, d, t, ys, zs, f h1 (fun _ z => by cases z), f h2 (fun _ z => by cases z), h3, h4, f h5 (fun _ z => by cases z), h6, h7, h8.but hp m, f h9 (fun _ z => by cases z), h10⟩
theorem tabs_but {T : List (Addr × Str)} {H H' : Hp} {p : Addr} {o : HO} (t : LamX.Tabs T H) (hp : H p = some o) (n1 : ∀ ps, o ≠ .tbl ps) (n2 : ∀ c q, o ≠ LamX.CodeO c q) (m : But p H H') : LamX.Tabs T H' := by
  intro r hr
  obtain ⟨ps, h1, h2, h3⟩ := t r hr
  refine ⟨ps, m _ (fun z => by rw [z, hp] at h1; exact n1 _ (Option.some.inj h1)) _ h1, h2, fun pos cv hc => ?_⟩
  obtain ⟨c, e1, e2⟩ := h3 pos cv hc
  exact ⟨c, e1, m _ (fun z => by rw [z, hp] at e2; exact n2 _ _ (Option.some.inj e2)) _ e2⟩
def bigA : Str := repS "a" 401
/-- one of the law's values that are no texts -/
def OddRaw (H : Hp) (v : V) : Prop := v = .non ∨ v = .int 0 ∨ (∃ a, v = .ref a ∧ H a = some (.tup [.str "a"])) ∨ (∃ a, v = .ref a ∧ H a = some (.lst [.str "a"])) ∨
  (∃ z : Str, v = .str z ∧ (z = "A" ∨ z = "a b" ∨ z = "a1" ∨ z = "a\n")) ∨ (∃ a, v = .ref a ∧ H a = some (.dK [])) ∨ v = .bl true ∨ v = .str bigA
theorem OddRaw.same {H H' : Hp} {v : V} (h : OddRaw H v) (s : Same H H') : OddRaw H' v := by
  rcases h with h | h | ⟨a, e, h⟩ | ⟨a, e, h⟩ | h | ⟨a, e, h⟩ | h | h
  · exact .inl h
  · exact .inr (.inl h)
  · exact .inr (.inr (.inl ⟨a, e, s _ _ h⟩))
  · exact .inr (.inr (.inr (.inl ⟨a, e, s _ _ h⟩)))
  · exact .inr (.inr (.inr (.inr (.inl h))))
  · exact .inr (.inr (.inr (.inr (.inr (.inl ⟨a, e, s _ _ h⟩)))))
  · exact .inr (.inr (.inr (.inr (.inr (.inr (.inl h))))))
  · exact .inr (.inr (.inr (.inr (.inr (.inr (.inr h))))))
theorem OddRaw.draw {H H' : Hp} {v : V} {p c : Addr} {ns : List Int} {n : Nat} (h : OddRaw H v) (gp : PenAt H p c ns n) (s : But p H H') : OddRaw H' v := by
  obtain ⟨t, g, hp, _⟩ := gp
  rcases h with h | h | ⟨a, e, h⟩ | ⟨a, e, h⟩ | h | ⟨a, e, h⟩ | h | h
  · exact .inl h
  · exact .inr (.inl h)
  · exact .inr (.inr (.inl ⟨a, e, s _ (fun z => by rw [z, hp] at h; cases h) _ h⟩))
  · exact .inr (.inr (.inr (.inl ⟨a, e, s _ (fun z => by rw [z, hp] at h; cases h) _ h⟩)))
  · exact .inr (.inr (.inr (.inr (.inl h))))
  · exact .inr (.inr (.inr (.inr (.inr (.inl ⟨a, e, s _ (fun z => by rw [z, hp] at h; cases h) _ h⟩)))))
  · exact .inr (.inr (.inr (.inr (.inr (.inr (.inl h))))))
  · exact .inr (.inr (.inr (.inr (.inr (.inr (.inr h))))))
theorem OddRaw.extN {H H' : Hp} {v : V} (h : OddRaw H v) (s : LamX.ExtN H H') : OddRaw H' v := by
  rcases h with h | h | ⟨a, e, h⟩ | ⟨a, e, h⟩ | h | ⟨a, e, h⟩ | h | h
  · exact .inl h
  · exact .inr (.inl h)
  · exact .inr (.inr (.inl ⟨a, e, s _ _ h (fun _ z => by cases z)⟩))
  · exact .inr (.inr (.inr (.inl ⟨a, e, s _ _ h (fun _ z => by cases z)⟩)))
  · exact .inr (.inr (.inr (.inr (.inl h))))
  · exact .inr (.inr (.inr (.inr (.inr (.inl ⟨a, e, s _ _ h (fun _ z => by cases z)⟩)))))
  · exact .inr (.inr (.inr (.inr (.inr (.inr (.inl h))))))
  · exact .inr (.inr (.inr (.inr (.inr (.inr (.inr h))))))
theorem bigA_list : bigA.cps.toList = List.replicate 401 97 := repS_one 97 401
theorem bigA_len : bigA.length = 401 := by
  have := congrArg List.length bigA_list
  rw [Array.length_toList, List.length_replicate] at this
  exact this
theorem bigA_ok : okL 0 401 bigA = true := by
  unfold okL
  rw [bigA_len, bigA_list]
  simp only [Bool.and_eq_true, decide_eq_true_eq, List.all_eq_true]
  refine ⟨by decide, by decide, fun x hx => ?_⟩
  rw [(List.mem_replicate.mp hx).2]
  decide +kernel
theorem OddRaw.bad {K : PySem.W.Frag} {H : Hp} {v : V} (h : OddRaw H v) : ∃ t, ∀ H0, LamX.ExtN H H0 → BadW K H0 v ∧ ShwE K H0 v t ∧ PyData.strOk t = true := by
  rcases h with rfl | rfl | ⟨a, rfl, h⟩ | ⟨a, rfl, h⟩ | ⟨z, rfl, h⟩ | ⟨a, rfl, h⟩ | rfl | rfl
  · exact ⟨_, fun H0 m => ⟨.inr ⟨_, fun H' s => .non, kit_ty (by decide +kernel)⟩, fun H' s => ⟨_, .non, rfl, by decide, by decide, rfl⟩, by decide +kernel⟩⟩
  · exact ⟨_, fun H0 m => ⟨.inr ⟨_, fun H' s => .int 0, kit_ty (by decide +kernel)⟩, fun H' s => ⟨_, .int 0, rfl, by decide, by decide +kernel, rfl⟩, by decide +kernel⟩⟩
  · exact ⟨_, fun H0 m => ⟨.inr ⟨_, fun H' s => .tup (s _ _ (m _ _ h (fun _ z => by cases z))), kit_ty (by decide +kernel)⟩, fun H' s => ⟨_, .tup (SqT.of (s _ _ (m _ _ h (fun _ z => by cases z)))) (.cons (.str "a") .nil), rfl, by decide, by decide +kernel, rfl⟩, by decide +kernel⟩⟩
  · exact ⟨_, fun H0 m => ⟨.inr ⟨_, fun H' s => .lst (s _ _ (m _ _ h (fun _ z => by cases z))), kit_ty (by decide +kernel)⟩, fun H' s => ⟨_, .lst (SqL.of (s _ _ (m _ _ h (fun _ z => by cases z)))) (.cons (.str "a") .nil), rfl, by decide, by decide +kernel, rfl⟩, by decide +kernel⟩⟩
  · rcases h with rfl | rfl | rfl | rfl
    · exact ⟨_, fun H0 m => ⟨.inl ⟨_, rfl, by decide +kernel, by decide +kernel⟩, fun H' s => ⟨_, .str _, rfl, by decide, by decide +kernel, rfl⟩, by decide +kernel⟩⟩
    · exact ⟨_, fun H0 m => ⟨.inl ⟨_, rfl, by decide +kernel, by decide +kernel⟩, fun H' s => ⟨_, .str _, rfl, by decide, by decide +kernel, rfl⟩, by decide +kernel⟩⟩
    · exact ⟨_, fun H0 m => ⟨.inl ⟨_, rfl, by decide +kernel, by decide +kernel⟩, fun H' s => ⟨_, .str _, rfl, by decide, by decide +kernel, rfl⟩, by decide +kernel⟩⟩
    · exact ⟨_, fun H0 m => ⟨.inl ⟨_, rfl, by decide +kernel, by decide +kernel⟩, fun H' s => ⟨_, .str _, rfl, by decide, by decide +kernel, rfl⟩, by decide +kernel⟩⟩
  · exact ⟨_, fun H0 m => ⟨.inr ⟨_, fun H' s => .dK (s _ _ (m _ _ h (fun _ z => by cases z))), kit_ty (by decide +kernel)⟩, fun H' s => ⟨_, .dic (s _ _ (m _ _ h (fun _ z => by cases z))) .nil, rfl, by decide, by decide +kernel, rfl⟩, by decide +kernel⟩⟩
  · exact ⟨_, fun H0 m => ⟨.inr ⟨_, fun H' s => .bl true, kit_ty (by decide +kernel)⟩, fun H' s => ⟨_, .bl true, rfl, by decide, by decide +kernel, rfl⟩, by decide +kernel⟩⟩
  · refine ⟨_, fun H0 m => ⟨.inl ⟨_, rfl, by rw [bigA_len]; decide, ?_⟩, fun H' s => Shw.str bigA ?_, ok_repr bigA_ok⟩⟩
    · unfold isTxt okL
      rw [bigA_len]
      rfl
    · have := StrLaws.reprText_len bigA fun c hc => by
        rw [bigA_list] at hc
        rw [(List.mem_replicate.mp hc).2]
        decide
      rw [bigA_len] at this
      exact Nat.le_trans this (by decide)
/-- one of the law's values that are no converters -/
def OddC (H : Hp) (v : V) : Prop := v = .non ∨ v = .int 0 ∨ (∃ z, v = .str z) ∨ (∃ a, v = .ref a ∧ H a = some (.dK [])) ∨ (∃ a xs, v = .ref a ∧ H a = some (.lst xs) ∧ ∃ x, xs = [.ref x]) ∨ v = .bl true
theorem OddC.extN {H H' : Hp} {v : V} (h : OddC H v) (s : LamX.ExtN H H') : OddC H' v := by
  rcases h with h | h | h | ⟨a, e, h⟩ | ⟨a, xs, e, h, r⟩ | h
  · exact .inl h
  · exact .inr (.inl h)
  · exact .inr (.inr (.inl h))
  · exact .inr (.inr (.inr (.inl ⟨a, e, s _ _ h (fun _ z => by cases z)⟩)))
  · exact .inr (.inr (.inr (.inr (.inl ⟨a, xs, e, s _ _ h (fun _ z => by cases z), r⟩))))
  · exact .inr (.inr (.inr (.inr (.inr h))))
theorem OddC.draw {H H' : Hp} {v : V} {p c : Addr} {ns : List Int} {n : Nat} (h : OddC H v) (gp : PenAt H p c ns n) (s : But p H H') : OddC H' v := by
  obtain ⟨t, g, hp, _⟩ := gp
  rcases h with h | h | h | ⟨a, e, h⟩ | ⟨a, xs, e, h, x, r⟩ | h
  · exact .inl h
  · exact .inr (.inl h)
  · exact .inr (.inr (.inl h))
  · exact .inr (.inr (.inr (.inl ⟨a, e, s _ (fun z => by rw [z, hp] at h; cases h) _ h⟩)))
  · exact .inr (.inr (.inr (.inr (.inl ⟨a, xs, e, s _ (fun z => by rw [z, hp, r] at h; have h2 := HO.lst.inj (Option.some.inj h); cases h2) _ h, x, r⟩))))
  · exact .inr (.inr (.inr (.inr (.inr h))))
theorem OddC.bad {K : PySem.W.Frag} {mg : Str → Option Value} (TM : TxM K mg) {H : Hp} {v : V} (h : OddC H v) : BadC K (gC mg) H v := by
  rcases h with rfl | rfl | ⟨z, rfl⟩ | ⟨a, rfl, h⟩ | ⟨a, xs, rfl, h, r⟩ | rfl
  · exact ⟨_, fun H' s => .base .non, TM.kN _ (by decide)⟩
  · exact ⟨_, fun H' s => .base (.int 0), TM.kN _ (by decide)⟩
  · exact ⟨_, fun H' s => .base (.str z), TM.kN _ (by decide)⟩
  · exact ⟨_, fun H' s => .base (.dK (s _ _ h)), TM.kN _ (by decide)⟩
  · exact ⟨_, fun H' s => .base (.lst (s _ _ h)), TM.kN _ (by decide)⟩
  · exact ⟨_, fun H' s => .base (.bl true), TM.kN _ (by decide)⟩
/-- one of the law's values that are no places behind any in a text of n letters -/
def OddP (H : Hp) (n : Nat) (v : V) : Prop := (∃ i : Int, v = .int i ∧ (i = -1 ∨ i = (n : Nat) + 1 ∨ i = 1000000000000000000000000000000)) ∨ v = .non ∨ v = .bl true ∨ v = .str "0" ∨ (∃ a, v = .ref a ∧ H a = some (.tup [.int 0]))
theorem OddP.same {H H' : Hp} {n : Nat} {v : V} (h : OddP H n v) (s : Same H H') : OddP H' n v := by
  rcases h with h | h | h | h | ⟨a, e, h⟩
  · exact .inl h
  · exact .inr (.inl h)
  · exact .inr (.inr (.inl h))
  · exact .inr (.inr (.inr (.inl h)))
  · exact .inr (.inr (.inr (.inr ⟨a, e, s _ _ h⟩)))
theorem OddP.extN {H H' : Hp} {n : Nat} {v : V} (h : OddP H n v) (s : LamX.ExtN H H') : OddP H' n v := by
  rcases h with h | h | h | h | ⟨a, e, h⟩
  · exact .inl h
  · exact .inr (.inl h)
  · exact .inr (.inr (.inl h))
  · exact .inr (.inr (.inr (.inl h)))
  · exact .inr (.inr (.inr (.inr ⟨a, e, s _ _ h (fun _ z => by cases z)⟩)))
theorem OddP.draw {H H' : Hp} {n : Nat} {v : V} {p c : Addr} {ns : List Int} {m : Nat} (h : OddP H n v) (gp : PenAt H p c ns m) (s : But p H H') : OddP H' n v := by
  obtain ⟨t, g, hp, _⟩ := gp
  rcases h with h | h | h | h | ⟨a, e, h⟩
  · exact .inl h
  · exact .inr (.inl h)
  · exact .inr (.inr (.inl h))
  · exact .inr (.inr (.inr (.inl h)))
  · exact .inr (.inr (.inr (.inr ⟨a, e, s _ (fun z => by rw [z, hp] at h; cases h) _ h⟩)))
theorem OddP.bad {K : PySem.W.Frag} {H : Hp} {n : Nat} {v : V} (h : OddP H n v) (hn : n ≤ 400) : ∃ t, PyData.strOk t = true ∧ ∀ H0, LamX.ExtN H H0 → (∀ l, l ≤ n → BadPl K H0 l n v) ∧ ShwE K H0 v t := by
  rcases h with ⟨i, rfl, hi⟩ | rfl | rfl | rfl | ⟨a, rfl, h⟩
  · refine ⟨_, ?_, fun H0 m => ⟨fun l hl => .inl ⟨i, rfl, ?_⟩, fun H' s => Shw.int i ?_⟩⟩
    · exact ok_ofString _
    · rcases hi with rfl | rfl | rfl
      · exact .inl (by omega)
      · exact .inr (by omega)
      · exact .inr (by omega)
    · have hi2 : i.natAbs ≤ 1000000000000000000000000000000 ∧ i.natAbs ≠ 0 := by
        rcases hi with rfl | rfl | rfl
        · exact ⟨by decide, by decide⟩
        · omega
        · exact ⟨by decide, by decide⟩
      refine (Nat.log2_lt hi2.2).mpr (Nat.lt_of_le_of_lt hi2.1 ?_)
      exact Nat.lt_of_lt_of_le (show 1000000000000000000000000000000 < 2 ^ 100 by decide) (Nat.pow_le_pow_right (by decide) (by decide))
  · exact ⟨_, by decide +kernel, fun H0 m => ⟨fun l _ => .inr (.inr ⟨_, fun H' s => .non, kit_ty (by decide +kernel)⟩), fun H' s => ⟨_, .non, rfl, by decide, by decide, rfl⟩⟩⟩
  · exact ⟨_, by decide +kernel, fun H0 m => ⟨fun l _ => .inr (.inl ⟨true, rfl⟩), fun H' s => ⟨_, .bl true, rfl, by decide, by decide +kernel, rfl⟩⟩⟩
  · exact ⟨_, by decide +kernel, fun H0 m => ⟨fun l _ => .inr (.inr ⟨_, fun H' s => .str _, kit_ty (by decide +kernel)⟩), fun H' s => ⟨_, .str _, rfl, by decide, by decide +kernel, rfl⟩⟩⟩
  · exact ⟨_, by decide +kernel, fun H0 m => ⟨fun l _ => .inr (.inr ⟨_, fun H' s => .tup (s _ _ (m _ _ h (fun _ z => by cases z))), kit_ty (by decide +kernel)⟩), fun H' s => ⟨_, .tup (SqT.of (s _ _ (m _ _ h (fun _ z => by cases z)))) (.cons (.int 0) .nil), rfl, by decide, by decide +kernel, rfl⟩⟩⟩
/-- how things stand in a lap -/
structure Wd (K : PySem.W.Frag) (mg : Str → Option Value) (PC PL p c q x : Addr) (ns : List Int) (G : Hp) (n : Nat) (s : Str) (st : List StE) (tl : List (Str × Str)) : Prop where
  gp : PenAt G p c ns n
  pl : PlAt K G q s st tl
  cv : CvAt K (gC mg) G x s st tl
  tb : LamX.Tabs (tabs PC PL) G
section
variable {K : PySem.W.Frag} {mg : Str → Option Value} {PC PL p c q x : Addr} {ns : List Int} {G G' : Hp} {n m : Nat} {s : Str} {st : List StE} {tl : List (Str × Str)}
theorem Wd.same (h : Wd K mg PC PL p c q x ns G n s st tl) (e : Same G G') : Wd K mg PC PL p c q x ns G' n s st tl := ⟨h.gp.same e, h.pl.same e, h.cv.same e, h.tb.ext e⟩
theorem Wd.extN (h : Wd K mg PC PL p c q x ns G n s st tl) (e : LamX.ExtN G G') (tb : LamX.Tabs (tabs PC PL) G') : Wd K mg PC PL p c q x ns G' n s st tl := ⟨h.gp.extN e, PlAt.extN h.pl e, CvAt.extN h.cv e, tb⟩
theorem Wd.draw (h : Wd K mg PC PL p c q x ns G n s st tl) (gp : PenAt G' p c ns m) (b : But p G G') : Wd K mg PC PL p c q x ns G' m s st tl := by
  obtain ⟨xs, e⟩ := h.gp.lst
  exact ⟨gp, h.pl.but h.gp.lst b, h.cv.but h.gp.lst b, tabs_but h.tb e (fun _ z => by cases z) (fun _ _ z => by cases z) b⟩
theorem Wd.mono (h : Wd K mg PC PL p c q x ns G n s st tl) (le : n ≤ m) : Wd K mg PC PL p c q x ns G m s st tl := ⟨h.gp.mono le, h.pl, h.cv, h.tb⟩
end
end KC
namespace KC
open PySem L2 PyProof.Rows
theorem Lay.one {H : Hp} {v : V} {d : PyData} (h : Lay H v d) : SeqAt.shaped d = true ∧ PyData.eqv d d = true := by
  obtain ⟨a, b, c⟩ := h.can
  refine ⟨?_, c⟩
  unfold SeqAt.shaped
  rw [a]
  simp
  omega
theorem cut6 {z : Str} (h : isTxt z = true) : isTxt (cutS z none (some 6)) = true ∧ (cutS z none (some 6)).length ≤ 6 := by
  have e : cutS z none (some 6) = ⟨(z.cps.toList.take (min 6 z.length)).toArray⟩ := by
    unfold cutS
    rw [HT.sIx_none, show (6 : Int) = ((6 : Nat) : Int) from rfl, HT.sIx_nat, List.drop_zero, Nat.sub_zero]
  have l : (cutS z none (some 6)).length ≤ 6 := by
    rw [e]
    show ((z.cps.toList.take (min 6 z.length)).toArray).size ≤ 6
    rw [List.size_toArray, List.length_take]
    omega
  refine ⟨?_, l⟩
  unfold isTxt okL at h ⊢
  simp only [Bool.and_eq_true, decide_eq_true_eq, List.all_eq_true] at h ⊢
  refine ⟨Nat.zero_le _, by omega, fun c hc => h.2.2 c ?_⟩
  rw [e] at hc
  exact List.mem_of_mem_take hc
section
variable {K : PySem.W.Frag} {mg : Str → Option Value} {H : Hp} {σ : L2.St} {p c q : Addr} {ns : List Int} {n : Nat} {s z0 z : Str} {st : List StE} {tl : List (Str × Str)} {d : PyData} {Q : VK} {i j l : Nat} {v wv u : V}
/-- a text, mostly one that is taken -/
theorem home_or (h1 : σ[1]? = some (some (.ref p))) (h3 : σ[3]? = some (some (.ref q))) (h6 : σ[6]? = some (some (.str z0))) (hp : PenAt H p c ns n) (hlen : ns.length ≤ 63) (hn : n < 900000) (pl : PlAt K H q s st tl) (ok : OkParts s st tl) (l30 : st.length ≤ 30)
    (hT : isTxt z0 = true) (hz : z0.length ≤ 12) (k : ∀ z G, isTxt z = true → z.length ≤ 66 → PenAt G p c ns (n + 200) → But p H G → Q (.str z) G) :
    tOrT K (tCall (spHome K) [] E0 (tCons (tVar 1) (tCons (tVar 3) (tCons (tSl rSlS (tVar 6) tNoPart (tPart (tC (V.int 6)))) tNil)))) (tVar 6) σ H Q := by
  obtain ⟨t6, l6⟩ := cut6 hT
  refine ⟨_, h1, _, h3, _, h6, 6, rfl, z0, rfl, Nat.le_trans hz (by decide), p, c, q, ns, n, s, st, tl, _, rfl, hp, hlen, hn, pl, ok, l30, t6, l6, fun v G hv gp b => ?_⟩
  rcases hv with rfl | ⟨y, rfl, hy, ly⟩
  · exact ⟨false, rfl, iteF ⟨_, h6, k z0 G hT (by omega) gp b⟩⟩
  · refine ⟨_, ⟨Nat.le_trans ly (by decide), rfl⟩, ?_⟩
    exact ite2 (fun _ => k y G hy ly gp b) (fun _ => ⟨_, h6, k z0 G hT (by omega) gp b⟩)
theorem asc_of : ∀ (ns : List Int) (b : Nat) (lo : Nat), ns.Pairwise (· ≤ ·) → (∀ x ∈ ns, (lo : Int) ≤ x ∧ x ≤ (b : Nat)) → ns = (ns.map Int.toNat).map (fun p : Nat => (p : Int)) ∧ Asc b lo (ns.map Int.toNat)
  | [], b, lo, _, _ => ⟨rfl, trivial⟩
  | x :: ns, b, lo, hp, hb => by
    obtain ⟨h1, h2⟩ := List.pairwise_cons.mp hp
    obtain ⟨b1, b2⟩ := hb x List.mem_cons_self
    have hx : ((x.toNat : Nat) : Int) = x := by omega
    obtain ⟨e, a⟩ := asc_of ns b x.toNat h2 fun y hy => ⟨by rw [hx]; exact h1 y hy, (hb y (List.mem_cons_of_mem _ hy)).2⟩
    refine ⟨?_, by show lo ≤ x.toNat; omega, by show x.toNat ≤ b; omega, a⟩
    rw [List.map_cons, List.map_cons, hx, ← e]
/-- places, ascending -/
theorem pick_places (h1 : σ[1]? = some (some (.ref p))) (h6 : σ[6]? = some (some (.str z))) (h15 : σ.length = 16) (hp : PenAt H p c ns n) (hlen : ns.length ≤ 63) (hn : n < 900000) (hz : z.length ≤ 66)
    (k : ∀ (ps : List Nat) L G, Asc z.length 0 ps → ps.length ≤ 3 → G L = some (.lst (ps.map fun p : Nat => V.int p)) → PenAt G p c ns (n + 10) → But p H G → Q (.ref L) G) :
    tCB (rSorted K) (tCons (tLc (iRng1 (tCons (tCall spDraw [] E0 (tCons (tVar 1) (tCons (tC (V.int 4)) tNil))) tNil)) (gName 15) tYes
      (tCB (fun xs H Q => ∃ i, xs = [V.int i] ∧ Q (V.int i) H) (tCons (tCall spDraw [] E0 (tCons (tVar 1) (tCons (tOp (rI0 fun i j => V.int (i + j)) (tCB (fun xs H Q => ∃ x n, xs = [x] ∧ LenV K x H n ∧ Q (V.int (n : Nat)) H) (tCons (tVar 6) tNil)) (tC (V.int 1))) tNil))) tNil))
      (List.map (fun x => x.snd) [(Str.ofString "_law_k", 15)])) tNil) σ H Q := by
  refine ⟨_, h1, p, c, _, ns, _, rfl, hp, hlen, by decide, by decide, by omega, fun m H2 m0 m1 hp2 b2 => ?_⟩
  refine ⟨_, rfl, by omega, by omega, fun D hD => ?_⟩
  have fD := hp2.fresh hD
  have hw : ∀ (x : V) (k : Nat), k ≠ 15 → ((wipe σ (List.map (fun x => x.snd) [(Str.ofString "_law_k", 15)])).set 15 (some x))[k]? = σ[k]? := by
    intro x k hk
    show ((σ.set 15 none).set 15 (some x))[k]? = σ[k]?
    rw [List.getElem?_set_ne (Ne.symm hk), List.getElem?_set_ne (Ne.symm hk)]
  refine lc_it (walk_range (lo := 0) (n := m.toNat)) (fun i H' => But p H2 H' ∧ PenAt H' p c ns (n + 1 + i) ∧ ∃ xs : List Int, H' D = some (.lst (xs.map V.int)) ∧ xs.length ≤ i ∧ ∀ x ∈ xs, (0 : Int) ≤ x ∧ x ≤ (z.length : Nat))
    ⟨But.of_same (Same.new hD), hp2.updF fD, [], upd_same, Nat.le_refl _, fun x hx => by cases hx⟩ (fun _ _ _ _ => True.intro) ?_ ?_
  · rintro j x G0 G hj ⟨bb, gp, xs, gD, lx, hxs⟩ ⟨rfl, ex⟩
    refine ⟨?_, ?_⟩
    · show ((σ.set 15 none).set 15 (some x)).set 15 none = σ.set 15 none
      rw [List.set_set, List.set_set]
    dsimp only [tYes]
    rw [if_pos rfl]
    refine ⟨_, (hw _ _ (by decide)).trans h1, _, (hw _ _ (by decide)).trans h6, .str z, _, rfl, ⟨Nat.le_trans hz (by decide), rfl⟩, _, _, rfl, rfl, p, c, _, ns, _, rfl, gp, hlen, by omega, by omega, by omega, fun r G2 r0 r1 gp2 b2' => ?_⟩
    refine ⟨_, rfl, _, b2' D fD.1 _ gD, ?_, ?_, gp2.updF fD, xs ++ [r], ?_, ?_, ?_⟩
    · rw [List.length_map]
      exact Nat.lt_of_le_of_lt (show xs.length ≤ 4 by omega) (by decide)
    · intro b hb o e
      exact upd_oth (fun z => by rw [z, hD] at e; cases e) ((But.tr bb b2') b hb o e)
    · rw [upd_same, List.map_append]
      rfl
    · rw [List.length_append]
      show xs.length + 1 ≤ j + 1
      omega
    · intro y hy
      rcases List.mem_append.mp hy with h | h
      · exact hxs y h
      · rw [List.mem_singleton.mp h]
        exact ⟨r0, by omega⟩
  · rintro G ⟨bb, gp, xs, gD, lx, hxs⟩
    refine ⟨D, xs, rfl, SqL.of gD, by omega, fun ns' L hperm hsort hL => ?_⟩
    obtain ⟨e, a⟩ := asc_of ns' z.length 0 hsort fun x hx => hxs x (hperm.mem_iff.mp hx)
    have lp := hperm.length_eq
    have bf := But.tr b2 (But.tr bb (But.of_same (Same.new (u := .lst (ns'.map V.int)) hL)))
    refine k (ns'.map Int.toNat) L _ a (by rw [List.length_map]; omega) ?_ ((gp.same (Same.new hL)).mono (by omega)) bf
    rw [upd_same]
    conv => lhs; rw [e]
    rw [List.map_map]
    rfl
/-- what is due of a cost at a wrong place -/
def wrongD (r : Ans) (t : Str) : PyData := match r with
  | .ok _ => .tuple [.str "number", .str t]
  | a => pieceD a
theorem due_here {t : Str} (h3 : σ[3]? = some (some (.ref q))) (h6 : σ[6]? = some (some (.str z))) (h9 : σ[9]? = some (some u)) (pl : PlAt K H q s st tl) (ok : OkParts s st tl) (hT : isTxt z = true) (sh : ShwE K H u t) (so : PyData.strOk t = true)
    (k : ∀ v G, Same H G → Lay G v (wrongD (ansOf s st tl z) t) → Q v G) :
    tIf (tB (tCall (spTaken K) [] E0 (tCons (tVar 3) (tCons (tVar 6) tNil)))) (tTup (tCons (tC (V.str (Str.ofString "number"))) (tCons (tCB (rRepV K) (tCons (tVar 9) tNil)) tNil)))
      (tCall (spLPiece K) [] E0 (tCons (tVar 3) (tCons (tVar 6) (tCons (tC (V.int 0)) tNil)))) σ H Q := by
  have oka := ans_okA ok hT
  refine ⟨_, h3, _, h6, q, z, s, st, tl, rfl, pl, ok, hT, fun G1 s1 => ⟨_, rfl, ?_⟩⟩
  have other : (∀ a, ansOf s st tl z ≠ .ok a) → (tCall (spLPiece K) [] E0 (tCons (tVar 3) (tCons (tVar 6) (tCons (tC (V.int 0)) tNil)))) σ G1 Q := by
    intro na
    refine ⟨_, h3, _, h6, q, z, s, st, tl, 0, rfl, pl.same s1, ok, hT, fun v G2 s2 hv => k v G2 (s1.trans s2) ?_⟩
    rw [shiftA_zero] at hv
    have l := PieceV.lay hv oka
    cases hr : ansOf s st tl z with
    | ok a => exact absurd hr (na a)
    | word => rw [hr] at l; exact l
    | step i q => rw [hr] at l; exact l
    | tail q => rw [hr] at l; exact l
  cases hr : ansOf s st tl z with
  | ok a =>
    rw [hr] at k
    refine iteT ⟨_, h9, u, t, rfl, sh _ s1, (by show 2 ≤ sizeLine; decide), fun T hT => ?_⟩
    exact k _ _ (s1.trans (Same.new hT)) (.inl ⟨T, _, _, rfl, upd_same, flat_two (by decide +kernel) so, rfl⟩)
  | word => exact iteF (other fun a e => by rw [hr] at e; cases e)
  | step i q => exact iteF (other fun a e => by rw [hr] at e; cases e)
  | tail q => exact iteF (other fun a e => by rw [hr] at e; cases e)
theorem heard_costV (h4 : σ[4]? = some (some v)) (h6 : σ[6]? = some (some wv)) (h8 : σ[8]? = some (some u)) (h : AskP K mg H v wv d (CstG K H u d)) (k : NewAt d H Q) :
    TTh K mg (fun E H' Q' => tCallVX (spCost K mg) E (tCons (tVar 8) (tCons (tVar 6) (tCons (tVar 4) tNil))) σ H' Q') H Q :=
  fun _ _ sm hR => ⟨_, h8, _, h6, _, h4, told_cost h k sm hR⟩
theorem heard_cost (h4 : σ[i]? = some (some v)) (h6 : σ[j]? = some (some wv)) (h8 : σ[l]? = some (some u)) (h : AskP K mg H v wv d (CstG K H u d)) (k : NewAt d H Q) :
    TTh K mg (fun E H' Q' => tCall (spCost K mg) [] E (tCons (tVar i) (tCons (tVar j) (tCons (tVar l) tNil))) σ H' Q') H Q :=
  fun _ _ sm hR => ⟨_, h4, _, h6, _, h8, told_cost h k sm hR⟩
theorem heard_costN (h4 : σ[i]? = some (some v)) (h6 : σ[j]? = some (some wv)) (h : AskP K mg H v wv d (CstG K H .non d)) (k : NewAt d H Q) :
    TTh K mg (fun E H' Q' => tCall (spCost K mg) [] E (tCons (tVar i) (tCons (tVar j) (tCons (tC V.non) tNil))) σ H' Q') H Q :=
  fun _ _ sm hR => ⟨_, h4, _, h6, told_cost h k sm hR⟩
theorem heard_pcsN (h4 : σ[i]? = some (some v)) (h6 : σ[j]? = some (some wv)) (h : AskP K mg H v wv d (PlcG K H [.non] d)) (k : NewAt d H Q) :
    TTh K mg (fun E H' Q' => tKfS (spPcs K mg) E (tCons (tVar i) (tCons (tVar j) (tCons (tC V.non) tNil))) σ H' Q') H Q :=
  fun _ _ sm hR => ⟨_, h4, _, h6, told_pieces (by show 1 ≤ 20; decide) h k sm hR⟩
/-- the cost of a drawn cut, asked -/
theorem ask_cost {x : Addr} {rp : Nat} (cv : CvAt K (gC mg) H x s st tl) (ok : OkParts s st tl) (hT : isTxt z = true) (hr : rp ≤ z.length) :
    AskP K mg H (.ref x) (.str z) (costD (ansOf s st tl z) (pcs s st tl z [] 0 [rp, z.length])) (CstG K H (.int (rp : Nat)) (costD (ansOf s st tl z) (pcs s st tl z [] 0 [rp, z.length]))) := by
  refine .inr ⟨x, s, st, tl, rfl, cv, ok, .inr ⟨z, rfl, hT, ?_⟩⟩
  cases ha : ansOf s st tl z with
  | ok a => exact .inr ⟨a, ha, .inr ⟨rp, rfl, hr, rfl⟩⟩
  | word => exact .inl ⟨fun a e => (by rw [ha] at e; cases e), (by rw [ha]; rfl)⟩
  | step i q => exact .inl ⟨fun a e => (by rw [ha] at e; cases e), (by rw [ha]; rfl)⟩
  | tail q => exact .inl ⟨fun a e => (by rw [ha] at e; cases e), (by rw [ha]; rfl)⟩
theorem ask_wrong {x : Addr} {t : Str} (cv : CvAt K (gC mg) H x s st tl) (ok : OkParts s st tl) (hT : isTxt z = true) (hb : BadPl K H 0 z.length u) (sh : ShwE K H u t) (so : PyData.strOk t = true) :
    AskP K mg H (.ref x) (.str z) (wrongD (ansOf s st tl z) t) (CstG K H u (wrongD (ansOf s st tl z) t)) := by
  refine .inr ⟨x, s, st, tl, rfl, cv, ok, .inr ⟨z, rfl, hT, ?_⟩⟩
  cases ha : ansOf s st tl z with
  | ok a => exact .inr ⟨a, ha, .inl ⟨t, hb, sh, so, rfl⟩⟩
  | word => exact .inl ⟨fun a e => (by rw [ha] at e; cases e), (by rw [ha]; rfl)⟩
  | step i q => exact .inl ⟨fun a e => (by rw [ha] at e; cases e), (by rw [ha]; rfl)⟩
  | tail q => exact .inl ⟨fun a e => (by rw [ha] at e; cases e), (by rw [ha]; rfl)⟩
/-- places of which one is wrong, asked -/
theorem ask_pls {x : Addr} {t : Str} {qv : List V} (cv : CvAt K (gC mg) H x s st tl) (ok : OkParts s st tl) (hT : isTxt z = true) (hp : Pls K H z.length 0 qv (some u)) (sh : ShwE K H u t) (so : PyData.strOk t = true) :
    AskP K mg H (.ref x) (.str z) (.tuple [.str "number", .str t]) (PlcG K H qv (.tuple [.str "number", .str t])) :=
  .inr ⟨x, s, st, tl, rfl, cv, ok, .inr ⟨z, rfl, hT, .inl ⟨u, t, hp, sh, so, rfl⟩⟩⟩
end
end KC
namespace KC
open PySem L2 PyProof.Rows
def evSt : List StE := [(("s", "a"), ("x", "t")), (("t", "a"), ("x", "s"))]
def evTl : List (Str × Str) := [("s", ""), ("t", "yy")]
theorem ok_ev : OkParts "s" evSt evTl where
  os := by decide +kernel
  ost := by
    intro e he
    simp only [evSt, List.mem_cons, List.not_mem_nil, or_false] at he
    rcases he with rfl | rfl
    · exact ⟨by decide +kernel, by decide +kernel, by decide +kernel, by decide +kernel⟩
    · exact ⟨by decide +kernel, by decide +kernel, by decide +kernel, by decide +kernel⟩
  lst := by decide
  otl := by
    intro e he
    simp only [evTl, List.mem_cons, List.not_mem_nil, or_false] at he
    rcases he with rfl | rfl
    · exact ⟨by decide +kernel, by decide +kernel⟩
    · exact ⟨by decide +kernel, by decide +kernel⟩
  ltl := by decide
  n6 := by decide +kernel
  l4 := by decide +kernel
theorem ev_1 : pcs "s" evSt evTl "aaaaaa" [] 0 [1, 2, 3, 4, 5, 6] = .inr ["xyy", "xyy", "xyy", "xyy", "xyy", "xyy"] := by kernel_rfl
theorem ev_2 : pcs "s" evSt evTl "aaaaaa" [] 0 [0, 2, 2, 4, 6, 6, 6] = .inr ["", "xx", "", "xx", "xx", "", ""] := by kernel_rfl
theorem ev_3 : pcs "s" evSt evTl "aaa" [] 0 [1, 1, 3] = .inr ["xyy", "", "xx"] := by kernel_rfl
theorem ev_4 : pcs "s" evSt evTl "aa" [] 0 [1, 2] = .inr ["xyy", "xyy"] := by kernel_rfl
theorem ev_5 : pcs "s" evSt evTl "aaa" [] 0 [1, 3] = .inr ["xyy", "xx"] := by kernel_rfl
theorem ev_a4 : ansOf "s" evSt evTl "aa" = .ok "xx" := by kernel_rfl
theorem ev_a5 : ansOf "s" evSt evTl "aaa" = .ok "xxxyy" := by kernel_rfl
theorem ints_inj : ∀ (a b : List Nat), a.map (fun p : Nat => V.int p) = b.map (fun p : Nat => V.int p) → a = b := by
  intro a
  induction a with
  | nil => intro b h; cases b with | nil => rfl | cons _ _ => cases h
  | cons x a ih =>
    intro b h
    cases b with
    | nil => cases h
    | cons y b =>
      have := List.cons.inj h
      rw [Int.ofNat.inj (V.int.inj this.1), ih b this.2]
theorem ev_pieces {K : PySem.W.Frag} {mg : Str → Option Value} {H : Hp} {Pq : Addr → Hp → Prop} {E : XK} {x : Addr} {s : Str} {st : List StE} {tl : List (Str × Str)} {z : Str} {ps : List Nat} {ws : List Str} (cv : CvAt K (gC mg) H x s st tl) (ok : OkParts s st tl) (hT : isTxt z = true)
    (asc : Asc z.length 0 ps) (lp : ps.length ≤ 20) (h : pcs s st tl z [] 0 (ps ++ [z.length]) = .inr ws) (k : ∀ R H', Same H H' → H' R = some (.tup (ws.map V.str)) → Pq R H') : (ps.map fun p : Nat => V.int p).length ≤ 20 ∧ PreP K mg (.ref x) (.str z) H E (PlsOk K mg H E (ps.map fun p : Nat => V.int p) fun ws => ∀ (R : Addr) H', Same H H' → H' R = some (.tup (ws.map V.str)) → Pq R H') := by
  refine ⟨by rw [List.length_map]; exact lp, .inr ⟨x, s, st, tl, rfl, cv, ok, .inr ⟨z, rfl, hT, none, asc.pls, fun ps' e' _ => ?_⟩⟩⟩
  obtain rfl := ints_inj _ _ e'
  rw [h]
  exact fun _ _ R H' s' gR => k R H' s' gR
theorem ev_cost {K : PySem.W.Frag} {mg : Str → Option Value} {H : Hp} {Pq : Int → Hp → Prop} {E : XK} {x : Addr} {s : Str} {st : List StE} {tl : List (Str × Str)} {z a : Str} {p : Nat} {ws : List Str} (cv : CvAt K (gC mg) H x s st tl) (ok : OkParts s st tl) (hT : isTxt z = true)
    (hp : p ≤ z.length) (ha : ansOf s st tl z = .ok a) (h : pcs s st tl z [] 0 [p, z.length] = .inr ws) (k : ∀ H', Same H H' → Pq ((lenS ws : Nat) - (a.length : Nat)) H') : PreP K mg (.ref x) (.str z) H E (CostOk K mg H E (.int (p : Nat)) fun i => ∀ H', Same H H' → Pq i H') := by
  refine .inr ⟨x, s, st, tl, rfl, cv, ok, .inr ⟨z, rfl, hT, ?_⟩⟩
  show ToldA mg H E (ansOf s st tl z) _
  rw [ha]
  refine .inr ⟨p, rfl, hp, ?_⟩
  rw [h]
  exact k
end KC
namespace KC
open PySem L2 PyProof.Rows
section
variable {P : Program} {w : World} {K : PySem.W.Frag} {mg : Str → Option Value} {base : Heap}
def spLaw (K : PySem.W.Frag) (PC PL : Addr) : Sp := fun vs H Q _ => ∃ (a : Addr) (ns : List Int), vs = [.ref a] ∧ SqL K H a (ns.map V.int) ∧ ns.length ≤ 63 ∧ LamX.Tabs (tabs PC PL) H ∧ ∀ H', Q (.bl true) H'
theorem law_g (TA : TxA K mg) (TS : TxS K mg) (TH : TxH K mg) (RZA : ∀ base, ErrR P w K mg base) {PC PL : Addr} (ne : PC ≠ PL) (OC : OwnC K mg base "_law_cut" s_lcut ["_law_made_here", "_law_text_here", "_law_places"] PC)
    {f0 : Addr} {fd : FuncData} {c0 : Addr} (F : FunC K "law" "law" s_law f0 fd (.ref c0)) (TB : LamX.TabB base mg c0 PL) : FnG P w K mg base CX0 10 f0 fd ["_law_script"] (spLaw K PC PL) := by
  have TM := TA.M
  have T := TM.C.T
  have RZ := RZA base
  refine F.okG sc_law (fun vs H Q E h => ?_) (fun A outer s H vs Q E hA hr h => ?_)
  · obtain ⟨a, ns, rfl, _⟩ := h
    rfl
  · obtain ⟨a, ns, rfl, hs, hlen, tb, k⟩ := h
    have hmT : (PL, (cxOf CX0 P w K mg base n_law "law" (defScope s_law) f0 (.ref c0) A outer s H E).nox.env.qual ++ "<lambda>") ∈ tabs PC PL := List.mem_cons_of_mem _ List.mem_cons_self
    have huT : ∀ q ∈ tabs PC PL, q.1 = PL → q.2 = (cxOf CX0 P w K mg base n_law "law" (defScope s_law) f0 (.ref c0) A outer s H E).nox.env.qual ++ "<lambda>" := by
      intro q hq e
      rcases List.mem_cons.mp hq with rfl | hq
      · exact absurd e ne
      · rcases List.mem_cons.mp hq with rfl | hq
        · rfl
        · cases hq
    refine ⟨_, (pss_cons (ps_set (i := 1) sc_law.nd rfl (Or.inr rfl) (pe_kf (kp_pen T) hA hr (by rfl) (pa_cons (pv 0) pa_nil)))
 (pss_cons (ps_for PassesOwn.never rfl (pi_range1 (by rfl) (T.nb _ (by decide)) (pa_cons (pe_int) pa_nil)) (pg_name (i := 2) sc_law.nd rfl (Or.inl rfl))
 (pss_cons (ps_set (i := 3) sc_law.nd rfl (Or.inl rfl) (pe_kf (kp_plan T) hA hr (by rfl) (pa_cons (pv 1) (pa_cons (pe_int) pa_nil))))
 (pss_cons (ps_set (i := 4) sc_law.nd rfl (Or.inr rfl) (pe_kf (kp_made TM) hA hr (by rfl) (pa_cons (pv 3) pa_nil)))
 (pss_cons (ps_for PassesOwn.never rfl (pi_range1 (by rfl) (T.nb _ (by decide)) (pa_cons (pe_int) pa_nil)) (pg_name (i := 5) sc_law.nd rfl (Or.inl rfl))
 (pss_cons (ps_set (i := 6) sc_law.nd rfl (Or.inr rfl) (pe_kf (kp_ltext T) hA hr (by rfl) (pa_cons (pv 1) (pa_cons (pv 3) (pa_cons (pe_int) pa_nil)))))
 (pss_cons (ps_set (i := 6) sc_law.nd rfl (Or.inr rfl) (pe_orT (pe_kf (kp_home T) hA hr (by rfl) (pa_cons (pv 1) (pa_cons (pv 3) (pa_cons (pe_slice sl_str (pv 6) po_none (po_some (pe_int))) pa_nil)))) (pe_one (pv 6))))
 (pss_cons (ps_set (i := 7) sc_law.nd rfl (Or.inl rfl) (pe_callB cr_sorted (by rfl) (T.nb _ (by decide)) (by decide +kernel) (pa_cons (pe_lc (own := [("_law_k", 15)]) (g := gName 15) (tt := tYes) rfl sc_law.nd (pi_range1 (by rfl) (T.nb _ (by decide)) (pa_cons (pe_kf (kp_draw T) hA hr (by rfl) (pa_cons (pv 1) (pa_cons (pe_int) pa_nil))) pa_nil)) (blkOk_by (N := n_law) (sc := defScope s_law) (by decide +kernel)) (fun _ _ _ _ _ => pg_name (i := 15) sc_law.nd rfl (Or.inl rfl)) (fun _ _ _ _ _ => pts_nil) (fun _ _ _ _ _ => (pe_callTy call_intI (by rfl) (T.nb _ (by decide)) (by decide +kernel) (pa_cons (pe_kf (kp_draw T) hA hr (by rfl) (pa_cons (pv 1) (pa_cons (pe_op op_add (pe_callB (call_len : CallR _ _ (fun xs H Q => ∃ x n, xs = [x] ∧ LenV K x H n ∧ Q (V.int (n : Nat)) H)) (by rfl) (T.nb _ (by decide)) PySem.boot_len (pa_cons (pv 6) pa_nil)) (pe_int)) pa_nil))) pa_nil)))) pa_nil)))
 (pss_cons (ps_if (pt_cmpR (op_neD hr.units) (pe_kp (kp_cut TA TS TH RZA ne OC) hA hr (by rfl) (pa_cons (pv 4) (pa_cons (pv 6) (pa_cons (pv 7) pa_nil)))) (pe_kf (kp_ldue T) hA hr (by rfl) (pa_cons (pv 3) (pa_cons (pv 6) (pa_cons (pv 7) pa_nil)))) (nomark _))
 (pss_one (ps_ret (pe_bl))) pss_nil)
 (pss_cons (ps_set (i := 8) sc_law.nd rfl (Or.inr rfl) (pe_kf (kp_draw T) hA hr (by rfl) (pa_cons (pv 1) (pa_cons (pe_op op_add (pe_callB call_len (by rfl) (T.nb _ (by decide)) PySem.boot_len (pa_cons (pv 6) pa_nil)) (pe_int)) pa_nil))))
 (pss_cons (ps_if (pt_cmpR (op_neD hr.units) (pe_heard TH hA hr (by rfl) TB rfl hmT huT (LamX.lamS_by (sc := defScope s_law) (by decide +kernel)) (by rfl) (fun _ _ _ _ _ => by rfl) (fun A outer s H E f c' hr2 => (pe_kfXV (kp_cost TA TS RZ).2 hr2 (passes_call (takes_of rfl rfl rfl rfl) (fun _ _ _ _ h => h)) (by rfl) (pk_cons (pv 8) (pk_cons (pv 6) (pk_cons (pv 4) pk_nil))) sp_cost_len))) (pe_kf (kp_lcostdue T) hA hr (by rfl) (pa_cons (pv 3) (pa_cons (pv 6) (pa_cons (pv 8) pa_nil)))) (nomark _))
 (pss_one (ps_ret (pe_bl))) pss_nil)
 (pss_cons (ps_set (i := 9) sc_law.nd rfl (Or.inr rfl) (pe_kf (kp_pick T) hA hr (by rfl) (pa_cons (pv 1) (pa_cons (pe_lst (pa_cons (pe_un un_neg (pe_int)) (pa_cons (pe_op op_add (pe_callB call_len (by rfl) (T.nb _ (by decide)) PySem.boot_len (pa_cons (pv 6) pa_nil)) (pe_int)) (pa_cons (pe_non) (pa_cons (pe_bl) (pa_cons (pe_str) (pa_cons (pe_tup (pa_cons (pe_int) pa_nil)) (pa_cons (pe_op op_pow (pe_int) (pe_int)) pa_nil)))))))) pa_nil))))
 (pss_cons (ps_set (i := 10) sc_law.nd rfl (Or.inl rfl) (pe_lst (pa_cons (pe_heard TH hA hr (by rfl) TB rfl hmT huT (LamX.lamS_by (sc := defScope s_law) (by decide +kernel)) (by rfl) (fun _ _ _ _ _ => by rfl) (fun A outer s H E f c' hr2 => (pe_kfS (kp_pieces TA TS RZ) hr2 (passes_call (takes_of rfl rfl rfl rfl) (fun _ _ _ _ h => h)) (by rfl) (pa_cons (pv 4) (pa_cons (pv 6) (pa_cons (pe_callB (call_len : CallR _ _ (fun xs H Q => ∃ x n, xs = [x] ∧ LenV K x H n ∧ Q (V.int (n : Nat)) H)) (by rfl) (T.nb _ (by decide)) PySem.boot_len (pa_cons (pv 6) pa_nil)) (pa_cons (pv 9) (pa_cons (pe_non) pa_nil)))))))) pa_nil)))
 (pss_cons (ps_expr (pe_bm PySem.F.plainAttrs_list PySem.F.slot_list_append PySem.F.type_list_append mt_append (pv 10) (pa_cons (pe_heard TH hA hr (by rfl) TB rfl hmT huT (LamX.lamS_by (sc := defScope s_law) (by decide +kernel)) (by rfl) (fun _ _ _ _ _ => by rfl) (fun A outer s H E f c' hr2 => (pe_kfS (kp_pieces TA TS RZ) hr2 (passes_call (takes_of rfl rfl rfl rfl) (fun _ _ _ _ h => h)) (by rfl) (pa_cons (pv 4) (pa_cons (pe_op op_add_str (pv 6) (pe_str)) (pa_cons (pe_int) (pa_cons (pv 9) pa_nil))))))) pa_nil)))
 (pss_cons (ps_if (pt_cmpR (op_neD hr.units) (pv 10) (pe_op op_rep (pe_lst (pa_cons (pe_tup (pa_cons (pe_str) (pa_cons (pe_callB (call_reprV hA hr.units) (by rfl) (T.nb _ (by decide)) (by decide +kernel) (pa_cons (pv 9) pa_nil)) pa_nil))) pa_nil)) (pe_int)) (nomark _))
 (pss_one (ps_ret (pe_bl))) pss_nil)
 (pss_cons (ps_set (i := 11) sc_law.nd rfl (Or.inl rfl) (pe_ifExp (pt_val (pe_kf (kp_istaken T) hA hr (by rfl) (pa_cons (pv 3) (pa_cons (pv 6) pa_nil)))) (pe_tup (pa_cons (pe_str) (pa_cons (pe_callB (call_reprV hA hr.units) (by rfl) (T.nb _ (by decide)) (by decide +kernel) (pa_cons (pv 9) pa_nil)) pa_nil))) (pe_kf (kp_lpiece T) hA hr (by rfl) (pa_cons (pv 3) (pa_cons (pv 6) (pa_cons (pe_int) pa_nil))))))
 (pss_cons (ps_if (pt_cmpR (op_neD hr.units) (pe_heard TH hA hr (by rfl) TB rfl hmT huT (LamX.lamS_by (sc := defScope s_law) (by decide +kernel)) (by rfl) (fun _ _ _ _ _ => by rfl) (fun A outer s H E f c' hr2 => (pe_kfX (kp_cost TA TS RZ).1 hr2 (passes_call (takes_of rfl rfl rfl rfl) (fun _ _ _ _ h => h)) (by rfl) (pa_cons (pv 4) (pa_cons (pv 6) (pa_cons (pv 9) pa_nil)))))) (pv 11) (nomark _))
 (pss_one (ps_ret (pe_bl))) pss_nil)
 (pss_one (ps_if (PW.pt (pw_and (pt_cmpR op_gt (pe_callB call_len (by rfl) (T.nb _ (by decide)) PySem.boot_len (pa_cons (pv 6) pa_nil)) (pe_int) (nomark _)) (pw_and1 (pt_cmpR (op_neD hr.units) (pe_heard TH hA hr (by rfl) TB rfl hmT huT (LamX.lamS_by (sc := defScope s_law) (by decide +kernel)) (by rfl) (fun _ _ _ _ _ => by rfl) (fun A outer s H E f c' hr2 => (pe_kfS (kp_pieces TA TS RZ) hr2 (passes_call (takes_of rfl rfl rfl rfl) (fun _ _ _ _ h => h)) (by rfl) (pa_cons (pv 4) (pa_cons (pv 6) (pa_cons (pe_callB (call_len : CallR _ _ (fun xs H Q => ∃ x n, xs = [x] ∧ LenV K x H n ∧ Q (V.int (n : Nat)) H)) (by rfl) (T.nb _ (by decide)) PySem.boot_len (pa_cons (pv 6) pa_nil)) (pa_cons (pe_int) pa_nil))))))) (pe_tup (pa_cons (pe_str) (pa_cons (pe_str) pa_nil))) (nomark _)))))
 (pss_one (ps_ret (pe_bl))) pss_nil)))))))))))))))
 (pss_cons (ps_asg (pe_tup (pa_cons (pe_kf (kp_pick T) hA hr (by rfl) (pa_cons (pv 1) (pa_cons (pe_lst (pa_cons (pe_non) (pa_cons (pe_int) (pa_cons (pe_str) (pa_cons (pe_dnewK) (pa_cons (pe_bl) pa_nil)))))) pa_nil))) (pa_cons (pe_kf (kp_pick T) hA hr (by rfl) (pa_cons (pv 1) (pa_cons (pe_lst (pa_cons (pe_non) (pa_cons (pe_int) (pa_cons (pe_str) (pa_cons (pe_lst (pa_cons (pe_str) pa_nil)) (pa_cons (pe_op op_repS (pe_str) (pe_int)) (pa_cons (pe_dnewK) pa_nil))))))) pa_nil))) pa_nil))) (pg_tup rfl (pgs_cons (pg_name (i := 12) sc_law.nd rfl (Or.inr rfl)) (pgs_cons (pg_name (i := 13) sc_law.nd rfl (Or.inr rfl)) pgs_nil))))
 (pss_cons (ps_set (i := 10) sc_law.nd rfl (Or.inl rfl) (pe_lst (pa_cons (pe_heard TH hA hr (by rfl) TB rfl hmT huT (LamX.lamS_by (sc := defScope s_law) (by decide +kernel)) (by rfl) (fun _ _ _ _ _ => by rfl) (fun A outer s H E f c' hr2 => (pe_kfS (kp_pieces TA TS RZ) hr2 (passes_call (takes_of rfl rfl rfl rfl) (fun _ _ _ _ h => h)) (by rfl) (pa_cons (pv 12) (pa_cons (pv 13) (pa_cons (pe_non) pa_nil)))))) pa_nil)))
 (pss_cons (ps_expr (pe_bm PySem.F.plainAttrs_list PySem.F.slot_list_append PySem.F.type_list_append mt_append (pv 10) (pa_cons (pe_heard TH hA hr (by rfl) TB rfl hmT huT (LamX.lamS_by (sc := defScope s_law) (by decide +kernel)) (by rfl) (fun _ _ _ _ _ => by rfl) (fun A outer s H E f c' hr2 => (pe_kfX (kp_cost TA TS RZ).1 hr2 (passes_call (takes_of rfl rfl rfl rfl) (fun _ _ _ _ h => h)) (by rfl) (pa_cons (pv 12) (pa_cons (pv 13) (pa_cons (pe_non) pa_nil)))))) pa_nil)))
 (pss_cons (ps_expr (pe_bm PySem.F.plainAttrs_list PySem.F.slot_list_append PySem.F.type_list_append mt_append (pv 10) (pa_cons (pe_heard TH hA hr (by rfl) TB rfl hmT huT (LamX.lamS_by (sc := defScope s_law) (by decide +kernel)) (by rfl) (fun _ _ _ _ _ => by rfl) (fun A outer s H E f c' hr2 => (pe_kfS (kp_pieces TA TS RZ) hr2 (passes_call (takes_of rfl rfl rfl rfl) (fun _ _ _ _ h => h)) (by rfl) (pa_cons (pv 4) (pa_cons (pv 13) (pa_cons (pe_non) pa_nil)))))) pa_nil)))
 (pss_cons (ps_expr (pe_bm PySem.F.plainAttrs_list PySem.F.slot_list_append PySem.F.type_list_append mt_append (pv 10) (pa_cons (pe_heard TH hA hr (by rfl) TB rfl hmT huT (LamX.lamS_by (sc := defScope s_law) (by decide +kernel)) (by rfl) (fun _ _ _ _ _ => by rfl) (fun A outer s H E f c' hr2 => (pe_kfX (kp_cost TA TS RZ).1 hr2 (passes_call (takes_of rfl rfl rfl rfl) (fun _ _ _ _ h => h)) (by rfl) (pa_cons (pv 4) (pa_cons (pv 13) (pa_cons (pe_non) pa_nil)))))) pa_nil)))
 (pss_one (ps_if (pt_cmpR (op_neD hr.units) (pv 10) (pe_op op_cat (pe_op op_rep (pe_lst (pa_cons (pe_tup (pa_cons (pe_str) (pa_cons (pe_str) pa_nil))) pa_nil)) (pe_int)) (pe_op op_rep (pe_lst (pa_cons (pe_tup (pa_cons (pe_str) (pa_cons (pe_callB (call_reprV hA hr.units) (by rfl) (T.nb _ (by decide)) (by decide +kernel) (pa_cons (pv 13) pa_nil)) pa_nil))) pa_nil)) (pe_int))) (nomark _))
 (pss_one (ps_ret (pe_bl))) pss_nil)))))))))))
 (pss_cons (ps_set (i := 14) sc_law.nd rfl (Or.inl rfl) (pe_kmkN (kp_init TM.C) hr rfl TM.C.mgC (pa_cons (pe_str) (pa_cons (pe_dispT2 (hu2_of hr) (pe_tup (pa_cons (pe_str) (pa_cons (pe_str) pa_nil))) (pe_tup (pa_cons (pe_str) (pa_cons (pe_str) pa_nil))) (pe_tup (pa_cons (pe_str) (pa_cons (pe_str) pa_nil))) (pe_tup (pa_cons (pe_str) (pa_cons (pe_str) pa_nil)))) (pa_cons (pe_disp (pps_cons (pe_str) (pe_str) (pps_cons (pe_str) (pe_str) pps_nil)) (by rfl) (by rfl) (fun z => by cases z) (by decide)) pa_nil)))))
 (pss_cons (ps_if (PW.pt (pw_or (pt_cmpR (op_neD hr.units) (pe_kfS (kp_pieces TA TS RZ) hr passL (by rfl) (pa_cons (pv 14) (pa_cons (pe_str) (pa_cons (pe_int) (pa_cons (pe_int) (pa_cons (pe_int) (pa_cons (pe_int) (pa_cons (pe_int) pa_nil)))))))) (pe_op op_repT (pe_tup (pa_cons (pe_str) pa_nil)) (pe_int)) (nomark _)) (pw_or1 (pt_cmpR (op_neD hr.units) (pe_kfS (kp_pieces TA TS RZ) hr passL (by rfl) (pa_cons (pv 14) (pa_cons (pe_str) (pa_cons (pe_int) (pa_cons (pe_int) (pa_cons (pe_int) (pa_cons (pe_int) (pa_cons (pe_int) (pa_cons (pe_int) pa_nil))))))))) (pe_tup (pa_cons (pe_str) (pa_cons (pe_str) (pa_cons (pe_str) (pa_cons (pe_str) (pa_cons (pe_str) (pa_cons (pe_str) (pa_cons (pe_str) pa_nil)))))))) (nomark _)))))
 (pss_one (ps_ret (pe_bl))) pss_nil)
 (pss_one (ps_ret ((pe_and (pe_cmpR (op_eqD hr.units) (pe_kfS (kp_pieces TA TS RZ) hr passL (by rfl) (pa_cons (pv 14) (pa_cons (pe_str) (pa_cons (pe_int) (pa_cons (pe_int) pa_nil))))) (pe_tup (pa_cons (pe_str) (pa_cons (pe_str) (pa_cons (pe_str) pa_nil)))) (nomark _)) (pe_one (pe_cmpR (op_eqD hr.units) (pe_lst (pa_cons (pe_kfX (kp_cost TA TS RZ).1 hr passL (by rfl) (pa_cons (pv 14) (pa_cons (pe_str) (pa_cons (pe_int) pa_nil)))) (pa_cons (pe_kfX (kp_cost TA TS RZ).1 hr passL (by rfl) (pa_cons (pv 14) (pa_cons (pe_str) (pa_cons (pe_int) pa_nil)))) pa_nil))) (pe_lst (pa_cons (pe_int) (pa_cons (pe_int) pa_nil))) (nomark _))))))))))), ?_⟩
    refine ⟨_, rfl, a, ns, rfl, hs, hlen, fun p c H1 hp0 hc0 s1 hp => ?_⟩
    have tb1 := tb.ext s1
    refine ⟨_, rfl, by decide, by decide, ?_⟩
    refine for_it (walk_range (lo := 0) (n := 5)) (fun i σ H' => ∃ (v2 v3 v4 v5 v6 v7 v8 v9 v10 v11 v12 v13 v14 : Option V), σ = [some (.ref a), some (.ref p), v2, v3, v4, v5, v6, v7, v8, v9, v10, v11, v12, v13, v14, none] ∧ PenAt H' p c ns (1100 * i) ∧ LamX.Tabs (tabs PC PL) H')
      ⟨_, _, _, _, _, _, _, _, _, _, _, _, _, rfl, hp, tb1⟩ (fun _ _ _ _ _ => True.intro) ?_ ?_
    · rintro i xv σ G0 G hi ⟨v2, v3, v4, v5, v6, v7, v8, v9, v10, v11, v12, v13, v14, rfl, gp, gt⟩ ⟨rfl, ex⟩
      refine ⟨_, rfl, p, c, ns, _, rfl, gp, hlen, by omega, fun q s0 st tl G1 ok pl gp1 b1 l30 => ?_⟩
      obtain ⟨xs, exs⟩ := gp.lst
      have tb2 := tabs_but gt exs (fun _ z => by cases z) (fun _ _ z => by cases z) b1
      refine ⟨_, rfl, q, s0, st, tl, rfl, pl, ok, fun x G2 s2 cv => ?_⟩
      have W0 : Wd K mg PC PL p c q x ns G2 (1100 * i + 100) s0 st tl := ⟨gp1.same s2, pl.same s2, cv, tb2.ext s2⟩
      refine ⟨_, rfl, by decide, by decide, ?_⟩
      refine for_it (walk_range (lo := 0) (n := 3)) (fun j σ H' => ∃ (v5 v6 v7 v8 v9 v10 v11 v12 v13 v14 : Option V), σ = [some (.ref a), some (.ref p), some xv, some (.ref q), some (.ref x), v5, v6, v7, v8, v9, v10, v11, v12, v13, v14, none] ∧ Wd K mg PC PL p c q x ns H' (1100 * i + 100 + 300 * j) s0 st tl)
        ⟨_, _, _, _, _, _, _, _, _, _, rfl, W0⟩ (fun _ _ _ _ _ => True.intro) ?_ ?_
      · rintro j yv σ G30 G3 hj ⟨v5, v6, v7, v8, v9, v10, v11, v12, v13, v14, rfl, W⟩ ⟨rfl, ey⟩
        refine ⟨_, rfl, _, rfl, p, c, q, ns, _, s0, st, tl, rfl, W.gp, hlen, by omega, W.pl, ok, l30, fun z0 G4 hz0 zl0 gp4 b4 => ?_⟩
        have W1 := W.draw gp4 b4
        refine home_or rfl rfl rfl W1.gp hlen (by omega) W1.pl ok l30 hz0 zl0 fun z G5 hz zl gp5 b5 => ?_
        have W2 := W1.draw gp5 b5
        refine pick_places rfl rfl rfl W2.gp hlen (by omega) zl fun ps L G6 asc lp gL gp6 b6 => ?_
        have W3 := W2.draw gp6 b6
        clear W W1 W2 gp4 gp5 gp6 b4 b5 b6
        have z4 : z.length ≤ 400 := okL_le hz
        have zS : z.length ≤ sizeLine := Nat.le_trans zl (by decide)
        -- the cut
        refine ⟨_, rfl, _, rfl, _, rfl, x, L, z, s0, st, tl, ps, rfl, W3.cv, ok, hz, gL, asc, lp, W3.tb, fun u1 G7 m7 tb7 lay1 => ?_⟩
        have W4 := W3.extN m7 tb7
        have gL7 := m7 _ _ gL (fun _ z => by cases z)
        refine ⟨_, rfl, _, rfl, _, rfl, q, L, z, s0, st, tl, ps, rfl, W4.pl, ok, hz, gL7, asc, by omega, fun u2 G8 s8 hv2 => ?_⟩
        have okr := pcs_ok ok z4 (ps ++ [z.length]) [] 0 (fun w hw => by cases hw)
        have lay1 := lay1.extN (extN_same s8)
        have lay2 := hv2.lay okr
        refine ⟨_, _, lay1.dp, lay2.dp, lay1.one.1, lay2.one.1, _, rfl, ?_⟩
        rw [lay1.one.2]
        refine iteF ?_
        have W5 := W4.same s8
        clear lay1 lay2 hv2 okr gL7 gL asc lp W3 W4
        -- the place
        refine ⟨_, rfl, _, rfl, .str z, _, rfl, ⟨zS, rfl⟩, _, _, rfl, rfl, p, c, _, ns, _, rfl, W5.gp, hlen, by omega, by omega, by omega, fun r G9 r0 r1 gp9 b9 => ?_⟩
        obtain ⟨rp, rfl⟩ : ∃ rp : Nat, r = (rp : Int) := ⟨r.toNat, by omega⟩
        have W6 := W5.draw gp9 b9
        refine ⟨W6.tb, fun G10 m10 tb10 => ?_⟩
        have W7 := W6.extN m10 tb10
        refine heard_costV rfl rfl rfl (ask_cost W7.cv ok hz (by omega)) fun u3 G11 s11 lay3 fr3 => ?_
        have W8 := W7.same s11
        refine ⟨_, rfl, _, rfl, _, rfl, q, z, s0, st, tl, rp, rfl, W8.pl, ok, hz, by omega, fun u4 G12 s12 hv4 => ?_⟩
        have lay3 := lay3.extN (extN_same s12)
        have lay4 := hv4.lay (ans_okA ok hz) (pcs_ok ok z4 [rp, z.length] [] 0 (fun w hw => by cases hw))
        refine ⟨_, _, lay3.dp, lay4.dp, lay3.one.1, lay4.one.1, _, rfl, ?_⟩
        rw [lay3.one.2]
        refine iteF ?_
        have W9 := W8.same s12
        clear lay3 lay4 hv4 W5 W6 W7 W8
        -- a wrong place
        refine ⟨_, rfl, _, rfl, _, rfl, .str z, _, rfl, ⟨zS, rfl⟩, _, _, rfl, rfl, (by show 1 ≤ sizeLine; decide), fun a1 ha1 => ?_⟩
        have t1 : Same G12 (upd G12 a1 (.tup [.int 0])) := Same.new ha1
        have o1 : upd G12 a1 (.tup [.int 0]) a1 = some (.tup [.int 0]) := upd_same
        generalize upd G12 a1 (.tup [.int 0]) = K1 at t1 o1
        refine ⟨10, 30, rfl, rfl, ⟨by decide, by decide, by decide⟩, (by show 7 ≤ sizeLine; decide), fun L2 hL2 => ?_⟩
        have hodd : ∀ v ∈ ([.int (-1), .int ((z.length : Nat) + 1), .non, .bl true, .str "0", .ref a1, .int (10 ^ (30 : Int).toNat)] : List V), OddP K1 z.length v := by
          intro v hv
          simp only [List.mem_cons, List.not_mem_nil, or_false] at hv
          rcases hv with rfl | rfl | rfl | rfl | rfl | rfl | rfl
          · exact .inl ⟨_, rfl, .inl rfl⟩
          · exact .inl ⟨_, rfl, .inr (.inl rfl)⟩
          · exact .inr (.inl rfl)
          · exact .inr (.inr (.inl rfl))
          · exact .inr (.inr (.inr (.inl rfl)))
          · exact .inr (.inr (.inr (.inr ⟨_, rfl, o1⟩)))
          · exact .inl ⟨_, rfl, .inr (.inr rfl)⟩
        have sL : Same K1 (upd K1 L2 (.lst [.int (-1), .int ((z.length : Nat) + 1), .non, .bl true, .str "0", .ref a1, .int (10 ^ (30 : Int).toNat)])) := Same.new hL2
        have gL : upd K1 L2 (.lst [.int (-1), .int ((z.length : Nat) + 1), .non, .bl true, .str "0", .ref a1, .int (10 ^ (30 : Int).toNat)]) L2 = some (.lst [.int (-1), .int ((z.length : Nat) + 1), .non, .bl true, .str "0", .ref a1, .int (10 ^ (30 : Int).toNat)]) := upd_same
        have W1 := W9.same (t1.trans sL)
        have nL : L2 ≠ p := ((W9.gp.same t1).fresh hL2).1
        show (fun K3 => _) (upd K1 L2 (.lst [.int (-1), .int ((z.length : Nat) + 1), .non, .bl true, .str "0", .ref a1, .int (10 ^ (30 : Int).toNat)]))
        generalize upd K1 L2 (.lst [.int (-1), .int ((z.length : Nat) + 1), .non, .bl true, .str "0", .ref a1, .int (10 ^ (30 : Int).toNat)]) = K3 at sL gL W1
        refine ⟨p, c, L2, _, ns, _, rfl, W1.gp, hlen, gL, nL, (by show 0 < 7; decide), (by show 7 < 1000000; decide), by omega, fun vw G15 hv gp15 b15 => ?_⟩
        have od := ((hodd vw hv).same sL).draw W1.gp b15
        have W2 := W1.draw gp15 b15
        clear hodd hv gL W1 sL W9
        obtain ⟨tx, so, bad⟩ := od.bad (K := K) z4
        -- the first wrong one
        refine ⟨W2.tb, fun G16 m16 tb16 => ?_⟩
        have W3 := W2.extN m16 tb16
        obtain ⟨bp16, sh16⟩ := bad G16 m16
        refine fun H' R sm hR => ⟨_, rfl, _, rfl, _, rfl, .str z, _, rfl, ⟨zS, rfl⟩, _, rfl, told_pieces (by show 3 ≤ 20; decide) (ask_pls W3.cv ok hz (.ok (Nat.zero_le _) (Nat.le_refl _) (.bad [.non] (bp16 _ (Nat.le_refl _)))) sh16 so) ?_ sm hR⟩
        clear sm hR R
        intro u1 G17 s17 lay1 fr1
        refine ⟨(by show 1 ≤ sizeLine; decide), fun L8 hL8 => ?_⟩
        have W4 := W3.same s17
        have m78 := extN_same (Same.new (u := .lst [u1]) hL8)
        have g8 : upd G17 L8 (.lst [u1]) L8 = some (.lst [u1]) := upd_same
        have W5 := W4.same (Same.new (u := .lst [u1]) hL8)
        generalize upd G17 L8 (.lst [u1]) = H8 at m78 g8 W5
        refine ⟨_, rfl, .inl ⟨rfl, _, SqL.of g8⟩, ⟨W5.tb, fun H9 m9 tb9 => ?_⟩⟩
        have W6 := W5.extN m9 tb9
        have g9 := m9 _ _ g8 (fun _ z => by cases z)
        have m69 := m16.trans ((extN_same s17).trans (m78.trans m9))
        obtain ⟨bp9, sh9⟩ := bad H9 m69
        refine fun H' R sm hR => ⟨_, rfl, _, rfl, z, "", rfl, rfl, Nat.le_trans (show z.length + 0 ≤ 100 by omega) (by decide), _, rfl, ?_⟩
        rw [app_nil]
        refine told_pieces (by show 2 ≤ 20; decide) (ask_pls W6.cv ok hz (.ok (p := 0) (Nat.le_refl _) (Nat.zero_le _) (.bad [] (bp9 0 (Nat.zero_le _)))) sh9 so) ?_ sm hR
        clear sm hR R
        intro u2 H10 s10 lay2 fr2
        have g10 := s10 _ _ g9
        have tb10 := tb9.ext s10
        refine ⟨L8, [u1], u2, rfl, rfl, g10, (by show 1 < sizeLine; decide), ?_⟩
        have ne2 : u2 ≠ .ref L8 := fun z => by
          obtain ⟨a2, e2, n2⟩ := fr2
          rw [e2] at z
          rw [V.ref.inj z, g9] at n2
          cases n2
        have m711 := extN_over (u := .lst ([u1] ++ [u2])) (LamX.ExtN.refl G17) hL8 (m78.trans (m9.trans (extN_same s10)))
        have lay2' := lay2.updL (u := .lst ([u1] ++ [u2])) g10 ne2
        have tb11 := tabs_updL (u := .lst ([u1] ++ [u2])) tb10 g10
        have g11 : upd H10 L8 (.lst ([u1] ++ [u2])) L8 = some (.lst [u1, u2]) := upd_same
        generalize upd H10 L8 (.lst ([u1] ++ [u2])) = H11 at m711 lay2' tb11 g11
        have lay1' := lay1.extN m711
        have W7 := W4.extN m711 tb11
        have mb : LamX.ExtN G15 H11 := m16.trans ((extN_same s17).trans m711)
        clear lay1 lay2 W5 W6 g10 g9 g8 tb10 ne2
        obtain ⟨bp11, sh11⟩ := bad H11 mb
        have fW : FlatAll [.str "number", .str tx] [.str "number", .str tx] := flat_two (by decide +kernel) so
        refine ⟨_, rfl, _, rfl, vw, tx, rfl, sh11 _ (fun _ _ h => h), (by show 2 ≤ sizeLine; decide), fun Tw hTw => ?_⟩
        have s21 : Same H11 (upd H11 Tw (.tup [.str "number", .str tx])) := Same.new hTw
        have gTw : upd H11 Tw (.tup [.str "number", .str tx]) Tw = some (.tup [.str "number", .str tx]) := upd_same
        show (fun H21 => _) (upd H11 Tw (.tup [.str "number", .str tx]))
        generalize upd H11 Tw (.tup [.str "number", .str tx]) = H21 at s21 gTw
        refine ⟨(by show 1 ≤ sizeLine; decide), fun M3 hM3 => ?_⟩
        have s22 := s21.trans (Same.new (u := .lst [.ref Tw]) hM3)
        have gTw := upd_new (u := .lst [.ref Tw]) hM3 gTw
        have gM3 : upd H21 M3 (.lst [.ref Tw]) M3 = some (.lst [.ref Tw]) := upd_same
        show (fun H22 => _) (upd H21 M3 (.lst [.ref Tw]))
        generalize upd H21 M3 (.lst [.ref Tw]) = H22 at s22 gTw gM3
        refine ⟨M3, 2, [.ref Tw], rfl, rfl, gM3, by decide, by decide, (by show 2 ≤ sizeLine; decide), fun M4 hM4 => ?_⟩
        have s23 := s22.trans (Same.new (u := .lst [.ref Tw, .ref Tw]) hM4)
        have gTw := upd_new (u := .lst [.ref Tw, .ref Tw]) hM4 gTw
        have gM4 : upd H22 M4 (.lst [.ref Tw, .ref Tw]) M4 = some (.lst [.ref Tw, .ref Tw]) := upd_same
        rw [show (List.replicate (Int.toNat 2) [V.ref Tw]).flatten = [V.ref Tw, V.ref Tw] from rfl]
        generalize upd H22 M4 (.lst [.ref Tw, .ref Tw]) = H23 at s23 gTw gM4
        have layW : Lay H23 (.ref Tw) (.tuple [.str "number", .str tx]) := .inl ⟨Tw, _, _, rfl, gTw, fW, rfl⟩
        have m23 := extN_same s23
        obtain ⟨shp, eqq⟩ := lay_shaped (ds := [.tuple [.str "number", .str tx], .tuple [.str "number", .str tx]]) fun d hd => by
          simp only [List.mem_cons, List.not_mem_nil, or_false, or_self] at hd
          rw [hd]
          exact layW.can
        refine ⟨_, _, .lst (SqL.of (s23 _ _ g11)) (.cons (lay1'.extN m23).dp (.cons (lay2'.extN m23).dp .nil)), .lst (SqL.of gM4) (.cons layW.dp (.cons layW.dp .nil)), shp, shp, _, rfl, ?_⟩
        rw [eqq]
        refine iteF ?_
        have W8 := W7.same s23
        have mb2 : LamX.ExtN G15 H23 := mb.trans m23
        clear lay1' lay2' layW shp eqq gTw gM4 gM3 s21 s22 g11 W7
        -- what is due of a wrong place
        obtain ⟨bp23, sh23⟩ := bad H23 mb2
        refine due_here rfl rfl rfl W8.pl ok hz sh23 so fun vd G24 s24 layD => ?_
        have W9 := W8.same s24
        refine ⟨W9.tb, fun G25 m25 tb25 => ?_⟩
        have W10 := W9.extN m25 tb25
        obtain ⟨bp25, sh25⟩ := bad G25 (mb2.trans ((extN_same s24).trans m25))
        refine heard_cost rfl rfl rfl (ask_wrong W10.cv ok hz (bp25 0 (Nat.zero_le _)) sh25 so) fun u5 G26 s26 lay5 fr5 => ?_
        have W11 := W10.same s26
        have layD := layD.extN (m25.trans (extN_same s26))
        refine ⟨_, rfl, _, _, lay5.dp, layD.dp, lay5.one.1, layD.one.1, _, rfl, ?_⟩
        rw [lay5.one.2]
        refine iteF ?_
        clear lay5 layD W8 W9 W10
        -- places that go back
        refine ⟨_, rfl, .str z, _, rfl, ⟨zS, rfl⟩, _, _, rfl, rfl, _, rfl, ?_⟩
        have wend := W11.mono (show 1100 * i + 100 + 300 * j + 50 + 200 + 10 + 1 + 1 ≤ 1100 * i + 100 + 300 * (j + 1) by omega)
        by_cases hn : 0 < z.length
        · rw [decide_eq_true (show (0 : Int) < (z.length : Nat) by omega)]
          refine iteT ?_
          refine ⟨W11.tb, fun G27 m27 tb27 => ?_⟩
          have W12 := W11.extN m27 tb27
          refine fun H' R sm hR => ⟨_, rfl, _, rfl, _, rfl, .str z, _, rfl, ⟨zS, rfl⟩, told_pieces (by show 2 ≤ 20; decide) (ask_pls (u := .int 0) (t := "0") W12.cv ok hz (.ok (Nat.zero_le _) (Nat.le_refl _) (.bad [] (.inl ⟨0, rfl, .inl (by omega)⟩))) (fun H' s => Shw.int 0 (by decide)) (by decide +kernel)) ?_ sm hR⟩
          clear sm hR R
          intro u6 G28 s28 lay6 fr6
          refine ⟨(by show 2 ≤ sizeLine; decide), fun T5 hT5 => ?_⟩
          have s29 : Same G28 (upd G28 T5 (.tup [.str "number", .str "0"])) := Same.new hT5
          have layT : Lay (upd G28 T5 (.tup [.str "number", .str "0"])) (.ref T5) (.tuple [.str "number", .str "0"]) := .inl ⟨T5, _, _, rfl, upd_same, flat_two (by decide +kernel) (by decide +kernel), rfl⟩
          have lay6 := lay6.extN (extN_same s29)
          refine ⟨_, _, lay6.dp, layT.dp, lay6.one.1, layT.one.1, _, rfl, ?_⟩
          rw [lay6.one.2]
          refine iteF ?_
          exact ⟨_, _, _, _, _, _, _, _, _, _, rfl, ((W12.same s28).same s29).mono (by omega)⟩
        · rw [decide_eq_false (show ¬ (0 : Int) < (z.length : Nat) by omega)]
          exact iteF ⟨_, _, _, _, _, _, _, _, _, _, rfl, wend⟩
      · rintro σ G3 ⟨v5, v6, v7, v8, v9, v10, v11, v12, v13, v14, rfl, W⟩
        refine ⟨_, rfl, fun a1 ha1 => ?_⟩
        have t1 : Same G3 (upd G3 a1 (.dK [])) := Same.new ha1
        have o1 : upd G3 a1 (.dK []) a1 = some (.dK []) := upd_same
        generalize upd G3 a1 (.dK []) = K1 at t1 o1
        refine ⟨(by show 5 ≤ sizeLine; decide), fun L hL => ?_⟩
        have hodd : ∀ v ∈ ([.non, .int 0, .str "@s s$", .ref a1, .bl true] : List V), OddC K1 v := by
          intro v hv
          simp only [List.mem_cons, List.not_mem_nil, or_false] at hv
          rcases hv with rfl | rfl | rfl | rfl | rfl
          · exact .inl rfl
          · exact .inr (.inl rfl)
          · exact .inr (.inr (.inl ⟨_, rfl⟩))
          · exact .inr (.inr (.inr (.inl ⟨_, rfl, o1⟩)))
          · exact .inr (.inr (.inr (.inr (.inr rfl))))
        have sL : Same K1 (upd K1 L (.lst [.non, .int 0, .str "@s s$", .ref a1, .bl true])) := Same.new hL
        have gL : upd K1 L (.lst [.non, .int 0, .str "@s s$", .ref a1, .bl true]) L = some (.lst [.non, .int 0, .str "@s s$", .ref a1, .bl true]) := upd_same
        have W1 := W.same (t1.trans sL)
        have nL : L ≠ p := ((W.gp.same t1).fresh hL).1
        show (fun K3 => _) (upd K1 L (.lst [.non, .int 0, .str "@s s$", .ref a1, .bl true]))
        generalize upd K1 L (.lst [.non, .int 0, .str "@s s$", .ref a1, .bl true]) = K3 at sL gL W1
        refine ⟨p, c, L, _, ns, _, rfl, W1.gp, hlen, gL, nL, (by show 0 < 5; decide), (by show 5 < 1000000; decide), by omega, fun vo G5 hv gp5 b5 => ?_⟩
        have od5 := ((hodd vo hv).extN (extN_same sL)).draw W1.gp b5
        have W2 := W1.draw gp5 b5
        clear hodd hv gL W1 sL
        refine ⟨_, rfl, (by show 1 ≤ sizeLine; decide), fun a3 ha3 => ?_⟩
        have t3 : Same G5 (upd G5 a3 (.lst [.str "a"])) := Same.new ha3
        have o3 : upd G5 a3 (.lst [.str "a"]) a3 = some (.lst [.str "a"]) := upd_same
        generalize upd G5 a3 (.lst [.str "a"]) = K4 at t3 o3
        refine ⟨"a", 401, rfl, rfl, by decide, by decide, by decide, by decide, by decide, fun a5 ha5 => ?_⟩
        have t5 : Same G5 (upd K4 a5 (.dK [])) := t3.trans (Same.new ha5)
        have o3'' := Same.new (u := .dK []) ha5 _ _ o3
        have o5 : upd K4 a5 (.dK []) a5 = some (.dK []) := upd_same
        generalize upd K4 a5 (.dK []) = K6 at t5 o3'' o5
        refine ⟨(by show 6 ≤ sizeLine; decide), fun L hL => ?_⟩
        have hodd : ∀ v ∈ ([.non, .int 0, .str "A", .ref a3, .str (repS "a" 401), .ref a5] : List V), OddRaw K6 v := by
          intro v hv
          simp only [List.mem_cons, List.not_mem_nil, or_false] at hv
          rcases hv with rfl | rfl | rfl | rfl | rfl | rfl
          · exact .inl rfl
          · exact .inr (.inl rfl)
          · exact .inr (.inr (.inr (.inr (.inl ⟨_, rfl, .inl rfl⟩))))
          · exact .inr (.inr (.inr (.inl ⟨_, rfl, o3''⟩)))
          · exact .inr (.inr (.inr (.inr (.inr (.inr (.inr rfl))))))
          · exact .inr (.inr (.inr (.inr (.inr (.inl ⟨_, rfl, o5⟩)))))
        have sL : Same K6 (upd K6 L (.lst [.non, .int 0, .str "A", .ref a3, .str (repS "a" 401), .ref a5])) := Same.new hL
        have gL : upd K6 L (.lst [.non, .int 0, .str "A", .ref a3, .str (repS "a" 401), .ref a5]) L = some (.lst [.non, .int 0, .str "A", .ref a3, .str (repS "a" 401), .ref a5]) := upd_same
        have W3 := W2.same (t5.trans sL)
        have nL : L ≠ p := ((W2.gp.same t5).fresh hL).1
        have od6 := od5.extN (extN_same (t5.trans sL))
        show (fun K7 => _) (upd K6 L (.lst [.non, .int 0, .str "A", .ref a3, .str (repS "a" 401), .ref a5]))
        generalize upd K6 L (.lst [.non, .int 0, .str "A", .ref a3, .str (repS "a" 401), .ref a5]) = K7 at sL gL W3 od6
        refine ⟨p, c, L, _, ns, _, rfl, W3.gp, hlen, gL, nL, (by show 0 < 6; decide), (by show 6 < 1000000; decide), by omega, fun vw G6 hv gp6 b6 => ?_⟩
        have wd6 := ((hodd vw hv).same sL).draw W3.gp b6
        have od7 := od6.draw W3.gp b6
        have W4 := W3.draw gp6 b6
        clear hodd hv gL W3 sL od6 od5 W2 W
        refine ⟨(by show 2 ≤ sizeLine; decide), fun A2 hA2 => ⟨A2, _, rfl, SqT.of upd_same, rfl, _, _, rfl, _, _, rfl, rfl, ?_⟩⟩
        have sA : Same G6 (upd G6 A2 (.tup [vo, vw])) := Same.new hA2
        have W4 := W4.same sA
        have wd6 := wd6.same sA
        have od7 := od7.extN (extN_same sA)
        generalize upd G6 A2 (.tup [vo, vw]) = G6 at sA W4 wd6 od7
        obtain ⟨tx, bad⟩ := wd6.bad (K := K)
        have dC : ∃ d : PyData, d = .tuple [.str "converter", .str "converter"] := ⟨_, rfl⟩
        obtain ⟨dc, edc⟩ := dC
        have dW : ∃ d : PyData, d = .tuple [.str "word", .str tx] := ⟨_, rfl⟩
        obtain ⟨dw, edw⟩ := dW
        -- first
        refine ⟨W4.tb, fun H6 m6 tb6 => ?_⟩
        have W5 := W4.extN m6 tb6
        refine heard_pcsN (i := 12) (j := 13) rfl rfl (.inl ⟨(od7.extN m6).bad TM, edc⟩) (fun u1 H7 s7 lay1 fr1 => ?_)
        refine ⟨(by show 1 ≤ sizeLine; decide), fun L8 hL8 => ?_⟩
        have W6 := W5.same s7
        have o7 := od7.extN (m6.trans (extN_same s7))
        have mG7 := m6.trans (extN_same s7)
        clear W5 W4
        have m78 := extN_same (Same.new (u := .lst [u1]) hL8)
        have g8 : upd H7 L8 (.lst [u1]) L8 = some (.lst [u1]) := upd_same
        have W8 := W6.same (Same.new (u := .lst [u1]) hL8)
        generalize upd H7 L8 (.lst [u1]) = H8 at m78 g8 W8
        -- second
        refine ⟨_, rfl, .inl ⟨rfl, _, SqL.of g8⟩, ⟨W8.tb, fun H9 m9 tb9 => ?_⟩⟩
        have g9 := m9 _ _ g8 (fun _ z => by cases z)
        refine heard_costN (i := 12) (j := 13) rfl rfl (.inl ⟨(o7.extN (m78.trans m9)).bad TM, edc⟩) (fun u2 H10 s10 lay2 fr2 => ?_)
        have g10 := s10 _ _ g9
        refine ⟨L8, [u1], u2, rfl, rfl, g10, (by show 1 < sizeLine; decide), ?_⟩
        have ne2 : u2 ≠ .ref L8 := fun z => by
          obtain ⟨a2, e2, n2⟩ := fr2
          rw [e2] at z
          rw [V.ref.inj z, g9] at n2
          cases n2
        have m11 := extN_over (u := .lst ([u1] ++ [u2])) (LamX.ExtN.refl H7) hL8 (m78.trans (m9.trans (extN_same s10)))
        have lay2 := lay2.updL (u := .lst ([u1] ++ [u2])) g10 ne2
        have tb11 := tabs_updL (u := .lst ([u1] ++ [u2])) (tb9.ext s10) g10
        have g11 : upd H10 L8 (.lst ([u1] ++ [u2])) L8 = some (.lst [u1, u2]) := upd_same
        generalize upd H10 L8 (.lst ([u1] ++ [u2])) = H11 at m11 lay2 tb11 g11
        have askW : ∀ H' out, LamX.ExtN H7 H' → LamX.Tabs (tabs PC PL) H' → AskP K mg H' (.ref x) vw dw out := by
          intro H' out m tbx
          obtain ⟨bw, sh, so⟩ := bad H' (mG7.trans m)
          exact .inr ⟨x, s0, st, tl, rfl, (W6.extN m tbx).cv, ok, .inl ⟨tx, bw, sh, so, edw⟩⟩
        -- third
        refine ⟨_, rfl, .inl ⟨rfl, _, SqL.of g11⟩, ⟨tb11, fun H12 m12 tb12 => ?_⟩⟩
        have g12 := m12 _ _ g11 (fun _ z => by cases z)
        refine heard_pcsN (i := 4) (j := 13) rfl rfl (askW _ _ (m11.trans m12) tb12) (fun u3 H13 s13 lay3 fr3 => ?_)
        have g13 := s13 _ _ g12
        refine ⟨L8, [u1, u2], u3, rfl, rfl, g13, (by show 2 < sizeLine; decide), ?_⟩
        have ne3 : u3 ≠ .ref L8 := fun z => by
          obtain ⟨a2, e2, n2⟩ := fr3
          rw [e2] at z
          rw [V.ref.inj z, g12] at n2
          cases n2
        have m14 := extN_over (u := .lst ([u1, u2] ++ [u3])) (LamX.ExtN.refl H7) hL8 (m11.trans (m12.trans (extN_same s13)))
        have lay2 := (lay2.extN (m12.trans (extN_same s13))).updL (u := .lst ([u1, u2] ++ [u3])) g13 ne2
        have lay3 := lay3.updL (u := .lst ([u1, u2] ++ [u3])) g13 ne3
        have tb14 := tabs_updL (u := .lst ([u1, u2] ++ [u3])) (tb12.ext s13) g13
        have g14 : upd H13 L8 (.lst ([u1, u2] ++ [u3])) L8 = some (.lst [u1, u2, u3]) := upd_same
        generalize upd H13 L8 (.lst ([u1, u2] ++ [u3])) = H14 at m14 lay2 lay3 tb14 g14
        -- fourth
        refine ⟨_, rfl, .inl ⟨rfl, _, SqL.of g14⟩, ⟨tb14, fun H15 m15 tb15 => ?_⟩⟩
        have g15 := m15 _ _ g14 (fun _ z => by cases z)
        refine heard_costN (i := 4) (j := 13) rfl rfl (askW _ _ (m14.trans m15) tb15) (fun u4 H16 s16 lay4 fr4 => ?_)
        have g16 := s16 _ _ g15
        refine ⟨L8, [u1, u2, u3], u4, rfl, rfl, g16, (by show 3 < sizeLine; decide), ?_⟩
        have ne4 : u4 ≠ .ref L8 := fun z => by
          obtain ⟨a2, e2, n2⟩ := fr4
          rw [e2] at z
          rw [V.ref.inj z, g15] at n2
          cases n2
        have m17 := extN_over (u := .lst ([u1, u2, u3] ++ [u4])) (LamX.ExtN.refl H7) hL8 (m14.trans (m15.trans (extN_same s16)))
        have lay2 := (lay2.extN (m15.trans (extN_same s16))).updL (u := .lst ([u1, u2, u3] ++ [u4])) g16 ne2
        have lay3 := (lay3.extN (m15.trans (extN_same s16))).updL (u := .lst ([u1, u2, u3] ++ [u4])) g16 ne3
        have lay4 := lay4.updL (u := .lst ([u1, u2, u3] ++ [u4])) g16 ne4
        have tb17 := tabs_updL (u := .lst ([u1, u2, u3] ++ [u4])) (tb15.ext s16) g16
        have g17 : upd H16 L8 (.lst ([u1, u2, u3] ++ [u4])) L8 = some (.lst [u1, u2, u3, u4]) := upd_same
        generalize upd H16 L8 (.lst ([u1, u2, u3] ++ [u4])) = H17 at m17 lay2 lay3 lay4 tb17 g17
        have lay1 := lay1.extN m17
        have W9 := W6.extN m17 tb17
        refine ⟨_, rfl, (by show 2 ≤ sizeLine; decide), fun Tc hTc => ?_⟩
        have s18 : Same H17 (upd H17 Tc (.tup [.str "converter", .str "converter"])) := Same.new hTc
        have gTc : upd H17 Tc (.tup [.str "converter", .str "converter"]) Tc = some (.tup [.str "converter", .str "converter"]) := upd_same
        show (fun H18 => _) (upd H17 Tc (.tup [.str "converter", .str "converter"]))
        generalize upd H17 Tc (.tup [.str "converter", .str "converter"]) = H18 at s18 gTc
        refine ⟨(by show 1 ≤ sizeLine; decide), fun M1 hM1 => ?_⟩
        have s19 := s18.trans (Same.new (u := .lst [.ref Tc]) hM1)
        have gTc := upd_new (u := .lst [.ref Tc]) hM1 gTc
        have gM1 : upd H18 M1 (.lst [.ref Tc]) M1 = some (.lst [.ref Tc]) := upd_same
        show (fun H19 => _) (upd H18 M1 (.lst [.ref Tc]))
        generalize upd H18 M1 (.lst [.ref Tc]) = H19 at s19 gTc gM1
        refine ⟨M1, 2, [.ref Tc], rfl, rfl, gM1, by decide, by decide, (by show 2 ≤ sizeLine; decide), fun M2 hM2 => ?_⟩
        have s20 := s19.trans (Same.new (u := .lst [.ref Tc, .ref Tc]) hM2)
        have gTc := upd_new (u := .lst [.ref Tc, .ref Tc]) hM2 gTc
        have gM2 : upd H19 M2 (.lst [.ref Tc, .ref Tc]) M2 = some (.lst [.ref Tc, .ref Tc]) := upd_same
        rw [show (List.replicate (Int.toNat 2) [V.ref Tc]).flatten = [V.ref Tc, V.ref Tc] from rfl]
        generalize upd H19 M2 (.lst [.ref Tc, .ref Tc]) = H20 at s20 gTc gM2
        obtain ⟨_, sh, so⟩ := bad H20 (mG7.trans (m17.trans (extN_same s20)))
        refine ⟨_, rfl, vw, tx, rfl, sh _ (fun _ _ h => h), (by show 2 ≤ sizeLine; decide), fun Tw hTw => ?_⟩
        have s21 : Same H20 (upd H20 Tw (.tup [.str "word", .str tx])) := Same.new hTw
        have gTw : upd H20 Tw (.tup [.str "word", .str tx]) Tw = some (.tup [.str "word", .str tx]) := upd_same
        show (fun H21 => _) (upd H20 Tw (.tup [.str "word", .str tx]))
        generalize upd H20 Tw (.tup [.str "word", .str tx]) = H21 at s21 gTw
        refine ⟨(by show 1 ≤ sizeLine; decide), fun M3 hM3 => ?_⟩
        have s22 := s21.trans (Same.new (u := .lst [.ref Tw]) hM3)
        have gTw := upd_new (u := .lst [.ref Tw]) hM3 gTw
        have gM3 : upd H21 M3 (.lst [.ref Tw]) M3 = some (.lst [.ref Tw]) := upd_same
        show (fun H22 => _) (upd H21 M3 (.lst [.ref Tw]))
        generalize upd H21 M3 (.lst [.ref Tw]) = H22 at s22 gTw gM3
        refine ⟨M3, 2, [.ref Tw], rfl, rfl, gM3, by decide, by decide, (by show 2 ≤ sizeLine; decide), fun M4 hM4 => ?_⟩
        have s23 := s22.trans (Same.new (u := .lst [.ref Tw, .ref Tw]) hM4)
        have gTw := upd_new (u := .lst [.ref Tw, .ref Tw]) hM4 gTw
        have gM4 : upd H22 M4 (.lst [.ref Tw, .ref Tw]) M4 = some (.lst [.ref Tw, .ref Tw]) := upd_same
        rw [show (List.replicate (Int.toNat 2) [V.ref Tw]).flatten = [V.ref Tw, V.ref Tw] from rfl]
        generalize upd H22 M4 (.lst [.ref Tw, .ref Tw]) = H23 at s23 gTw gM4
        refine ⟨M2, M4, _, _, rfl, rfl, s23 _ _ gM2, gM4, (by show 4 ≤ sizeLine; decide), fun M5 hM5 => ?_⟩
        have s24 := s23.trans (Same.new (u := .lst ([.ref Tc, .ref Tc] ++ [.ref Tw, .ref Tw])) hM5)
        have gTw := upd_new (u := .lst ([.ref Tc, .ref Tc] ++ [.ref Tw, .ref Tw])) hM5 gTw
        have gM5 : upd H23 M5 (.lst ([.ref Tc, .ref Tc] ++ [.ref Tw, .ref Tw])) M5 = some (.lst ([.ref Tc, .ref Tc] ++ [.ref Tw, .ref Tw])) := upd_same
        generalize upd H23 M5 (.lst ([.ref Tc, .ref Tc] ++ [.ref Tw, .ref Tw])) = H24 at s24 gTw gM5
        have s25 := s20.trans s24
        have m25 := extN_same s25
        have fC : FlatAll [.str "converter", .str "converter"] [.str "converter", .str "converter"] := .cons (.str _ (by decide +kernel)) (.cons (.str _ (by decide +kernel)) .nil)
        have fW : FlatAll [.str "word", .str tx] [.str "word", .str tx] := .cons (.str _ (by decide +kernel)) (.cons (.str _ so) .nil)
        have layC : Lay H24 (.ref Tc) dc := .inl ⟨Tc, _, _, rfl, s24 _ _ gTc, fC, edc⟩
        have layW : Lay H24 (.ref Tw) dw := .inl ⟨Tw, _, _, rfl, gTw, fW, edw⟩
        obtain ⟨shp, eqq⟩ := lay_shaped (ds := [dc, dc, dw, dw]) fun d hd => by
          simp only [List.mem_cons, List.not_mem_nil, or_false] at hd
          rcases hd with rfl | rfl | rfl | rfl
          · exact layC.can
          · exact layC.can
          · exact layW.can
          · exact layW.can
        refine ⟨_, _, .lst (SqL.of (s25 _ _ g17)) (.cons (lay1.extN m25).dp (.cons (lay2.extN m25).dp (.cons (lay3.extN m25).dp (.cons (lay4.extN m25).dp .nil)))), .lst (SqL.of gM5) (.cons layC.dp (.cons layC.dp (.cons layW.dp (.cons layW.dp .nil)))), shp, shp, _, rfl, ?_⟩
        rw [eqq]
        refine iteF ?_
        have W10 := W9.extN m25 (tb17.ext s25)
        exact ⟨_, _, _, _, _, _, _, _, _, _, _, _, _, rfl, W10.gp.mono (by omega), W10.tb⟩
    · rintro σ G ⟨v2, v3, v4, v5, v6, v7, v8, v9, v10, v11, v12, v13, v14, rfl, gp, gt⟩
      refine fun D hD => ⟨(by show 2 ≤ sizeLine; decide), fun k1 hk1 => ?_⟩
      have gD1 : upd G D (.dT []) D = some (.dT []) := upd_same
      have gD2 := upd_new (u := .tup [.str "s", .str "a"]) hk1 gD1
      have gk1 : upd (upd G D (.dT [])) k1 (.tup [.str "s", .str "a"]) k1 = some (.tup [.str "s", .str "a"]) := upd_same
      show (fun G1 => _) (upd (upd G D (.dT [])) k1 (.tup [.str "s", .str "a"]))
      generalize upd (upd G D (.dT [])) k1 (.tup [.str "s", .str "a"]) = G1 at gD2 gk1
      refine ⟨(by show 2 ≤ sizeLine; decide), fun w1 hw1 => ?_⟩
      have gD3 := upd_new (u := .tup [.str "x", .str "t"]) hw1 gD2
      have gk1 := upd_new (u := .tup [.str "x", .str "t"]) hw1 gk1
      have gw1 : upd G1 w1 (.tup [.str "x", .str "t"]) w1 = some (.tup [.str "x", .str "t"]) := upd_same
      show (fun G2 => _) (upd G1 w1 (.tup [.str "x", .str "t"]))
      generalize upd G1 w1 (.tup [.str "x", .str "t"]) = G2 at gD3 gk1 gw1
      refine ⟨(by show 2 ≤ sizeLine; decide), fun k2 hk2 => ?_⟩
      have gD4 := upd_new (u := .tup [.str "t", .str "a"]) hk2 gD3
      have gk1 := upd_new (u := .tup [.str "t", .str "a"]) hk2 gk1
      have gw1 := upd_new (u := .tup [.str "t", .str "a"]) hk2 gw1
      have gk2 : upd G2 k2 (.tup [.str "t", .str "a"]) k2 = some (.tup [.str "t", .str "a"]) := upd_same
      show (fun G3 => _) (upd G2 k2 (.tup [.str "t", .str "a"]))
      generalize upd G2 k2 (.tup [.str "t", .str "a"]) = G3 at gD4 gk1 gw1 gk2
      refine ⟨(by show 2 ≤ sizeLine; decide), fun w2 hw2 => ?_⟩
      have gD5 := upd_new (u := .tup [.str "x", .str "s"]) hw2 gD4
      have gk1 := upd_new (u := .tup [.str "x", .str "s"]) hw2 gk1
      have gw1 := upd_new (u := .tup [.str "x", .str "s"]) hw2 gw1
      have gk2 := upd_new (u := .tup [.str "x", .str "s"]) hw2 gk2
      have gw2 : upd G3 w2 (.tup [.str "x", .str "s"]) w2 = some (.tup [.str "x", .str "s"]) := upd_same
      show (fun G4 => _) (upd G3 w2 (.tup [.str "x", .str "s"]))
      generalize upd G3 w2 (.tup [.str "x", .str "s"]) = G4 at gD5 gk1 gw1 gk2 gw2
      refine ⟨k1, [.inr "s", .inr "a"], k2, [.inr "t", .inr "a"], rfl, rfl, gk1, gk2, gD5, fun Tl hTl => ?_⟩
      have ekv : putK (putK [] ([Sum.inr (Str.ofString "s"), Sum.inr (Str.ofString "a")] : List Key) (V.ref w1)) ([Sum.inr (Str.ofString "t"), Sum.inr (Str.ofString "a")] : List Key) (V.ref w2) = [(([Sum.inr (Str.ofString "s"), Sum.inr (Str.ofString "a")] : List Key), V.ref w1), (([Sum.inr (Str.ofString "t"), Sum.inr (Str.ofString "a")] : List Key), V.ref w2)] := by rfl
      rw [ekv]
      rw [ekv] at hTl
      have nw1 : w1 ≠ D := fun z => by rw [z, gD5] at gw1; cases gw1
      have nw2 : w2 ≠ D := fun z => by rw [z, gD5] at gw2; cases gw2
      have gDx : upd G4 D (.dT [(([Sum.inr (Str.ofString "s"), Sum.inr (Str.ofString "a")] : List Key), V.ref w1), (([Sum.inr (Str.ofString "t"), Sum.inr (Str.ofString "a")] : List Key), V.ref w2)]) D = some (.dT [(([Sum.inr (Str.ofString "s"), Sum.inr (Str.ofString "a")] : List Key), V.ref w1), (([Sum.inr (Str.ofString "t"), Sum.inr (Str.ofString "a")] : List Key), V.ref w2)]) := upd_same
      have gw1x := upd_oth (u := .dT [(([Sum.inr (Str.ofString "s"), Sum.inr (Str.ofString "a")] : List Key), V.ref w1), (([Sum.inr (Str.ofString "t"), Sum.inr (Str.ofString "a")] : List Key), V.ref w2)]) nw1 gw1
      have gw2x := upd_oth (u := .dT [(([Sum.inr (Str.ofString "s"), Sum.inr (Str.ofString "a")] : List Key), V.ref w1), (([Sum.inr (Str.ofString "t"), Sum.inr (Str.ofString "a")] : List Key), V.ref w2)]) nw2 gw2
      generalize upd G4 D (.dT [(([Sum.inr (Str.ofString "s"), Sum.inr (Str.ofString "a")] : List Key), V.ref w1), (([Sum.inr (Str.ofString "t"), Sum.inr (Str.ofString "a")] : List Key), V.ref w2)]) = G5 at hTl gDx gw1x gw2x
      have s6 : Same G5 (upd G5 Tl (.dK [])) := Same.new hTl
      have gT0 : upd G5 Tl (.dK []) Tl = some (.dK []) := upd_same
      generalize upd G5 Tl (.dK []) = G6 at s6 gT0
      refine ⟨gT0, [(.inr "s", .str ""), (.inr "t", .str "yy")], rfl, (by show 2 ≤ 15; decide), ?_⟩
      have nTD : D ≠ Tl := fun z => by
        have := s6 _ _ gDx
        rw [z, gT0] at this
        cases this
      have nT1 : w1 ≠ Tl := fun z => by
        have := s6 _ _ gw1x
        rw [z, gT0] at this
        cases this
      have nT2 : w2 ≠ Tl := fun z => by
        have := s6 _ _ gw2x
        rw [z, gT0] at this
        cases this
      have gT : upd G6 Tl (.dK (mergeK [] [(.inr "s", .str ""), (.inr "t", .str "yy")])) Tl = some (.dK (evTl.map tlKv)) := upd_same
      have gD7 := upd_oth (u := .dK (mergeK [] [(.inr "s", .str ""), (.inr "t", .str "yy")])) nTD (s6 _ _ gDx)
      have gw17 := upd_oth (u := .dK (mergeK [] [(.inr "s", .str ""), (.inr "t", .str "yy")])) nT1 (s6 _ _ gw1x)
      have gw27 := upd_oth (u := .dK (mergeK [] [(.inr "s", .str ""), (.inr "t", .str "yy")])) nT2 (s6 _ _ gw2x)
      show (fun G7 => _) (upd G6 Tl (.dK (mergeK [] [(.inr "s", .str ""), (.inr "t", .str "yy")])))
      generalize upd G6 Tl (.dK (mergeK [] [(.inr "s", .str ""), (.inr "t", .str "yy")])) = G7 at gT gD7 gw17 gw27
      have hst : StAt K G7 D evSt := ⟨_, gD7, ⟨rfl, fun i e he => by
        match i, he with
        | 0, he =>
          obtain rfl := Option.some.inj he
          exact ⟨w1, rfl, SqT.of gw17⟩
        | 1, he =>
          obtain rfl := Option.some.inj he
          exact ⟨w2, rfl, SqT.of gw27⟩⟩, (by show ([[Sum.inr (Str.ofString "s"), Sum.inr (Str.ofString "a")], [Sum.inr (Str.ofString "t"), Sum.inr (Str.ofString "a")]] : List (List Key)).Nodup; decide +kernel)⟩
      refine fun x dx hx hdx nxd => ?_
      refine make_ok (K := K) (mg := mg) hst gT (by decide +kernel) ok_ev hx hdx nxd fun G8 s8 cv => ?_
      refine ⟨_, rfl, .ref x, .str "aaaaaa", ([1, 2, 3, 4, 5] : List Nat).map (fun p : Nat => V.int p), rfl, ev_pieces (ps := [1, 2, 3, 4, 5]) cv ok_ev (by decide +kernel) ⟨by decide +kernel, by decide +kernel, by decide +kernel, by decide +kernel, by decide +kernel, by decide +kernel, by decide +kernel, by decide +kernel, by decide +kernel, by decide +kernel, trivial⟩ (by decide) ev_1 fun R G9 s9 gR => ?_⟩
      refine ⟨(by show 1 ≤ sizeLine; decide), fun T1 hT1 => ⟨T1, 6, [.str "xyy"], rfl, rfl, SqT.of upd_same, by simp, by decide, by decide, by decide, fun T2 hT2 => ?_⟩⟩
      have s10 : Same G9 (upd G9 T1 (.tup [.str "xyy"])) := Same.new hT1
      rw [show (List.replicate (Int.toNat 6) [V.str (Str.ofString "xyy")]).flatten = (["xyy", "xyy", "xyy", "xyy", "xyy", "xyy"] : List Str).map V.str from rfl]
      have s11 : Same G9 (upd (upd G9 T1 (.tup [.str "xyy"])) T2 (.tup ((["xyy", "xyy", "xyy", "xyy", "xyy", "xyy"] : List Str).map V.str))) := s10.trans (Same.new hT2)
      have gT2 : upd (upd G9 T1 (.tup [.str "xyy"])) T2 (.tup ((["xyy", "xyy", "xyy", "xyy", "xyy", "xyy"] : List Str).map V.str)) T2 = some (.tup ((["xyy", "xyy", "xyy", "xyy", "xyy", "xyy"] : List Str).map V.str)) := upd_same
      generalize upd (upd G9 T1 (.tup [.str "xyy"])) T2 (.tup ((["xyy", "xyy", "xyy", "xyy", "xyy", "xyy"] : List Str).map V.str)) = G11 at s11 gT2
      have cv11 := cv.same (s9.trans s11)
      refine ⟨_, _, .tup (SqT.of (s11 _ _ gR)) (dp_strs _), .tup (SqT.of gT2) (dp_strs _), by decide +kernel, by decide +kernel, _, rfl, ?_⟩
      rw [show PyData.eqv (.tuple ((["xyy", "xyy", "xyy", "xyy", "xyy", "xyy"] : List Str).map PyData.str)) (.tuple ((["xyy", "xyy", "xyy", "xyy", "xyy", "xyy"] : List Str).map PyData.str)) = true by decide +kernel]
      refine iteF ?_
      refine ⟨_, rfl, .ref x, .str "aaaaaa", ([0, 2, 2, 4, 6, 6] : List Nat).map (fun p : Nat => V.int p), rfl, ev_pieces (ps := [0, 2, 2, 4, 6, 6]) cv11 ok_ev (by decide +kernel) ⟨by decide +kernel, by decide +kernel, by decide +kernel, by decide +kernel, by decide +kernel, by decide +kernel, by decide +kernel, by decide +kernel, by decide +kernel, by decide +kernel, by decide +kernel, by decide +kernel, trivial⟩ (by decide) ev_2 fun R G12 s12 gR => ?_⟩
      refine ⟨(by show 7 ≤ sizeLine; decide), fun T1 hT1 => ?_⟩
      have s13 : Same G12 (upd G12 T1 (.tup [.str "", .str "xx", .str "", .str "xx", .str "xx", .str "", .str ""])) := Same.new hT1
      have gT1 : upd G12 T1 (.tup [.str "", .str "xx", .str "", .str "xx", .str "xx", .str "", .str ""]) T1 = some (.tup ((["", "xx", "", "xx", "xx", "", ""] : List Str).map V.str)) := upd_same
      show (fun G13 => _) (upd G12 T1 (.tup [.str "", .str "xx", .str "", .str "xx", .str "xx", .str "", .str ""]))
      generalize upd G12 T1 (.tup [.str "", .str "xx", .str "", .str "xx", .str "xx", .str "", .str ""]) = G13 at s13 gT1
      have cv13 := cv11.same (s12.trans s13)
      refine ⟨_, _, .tup (SqT.of (s13 _ _ gR)) (dp_strs _), .tup (SqT.of gT1) (dp_strs _), by decide +kernel, by decide +kernel, _, rfl, ?_⟩
      rw [show PyData.eqv (.tuple ((["", "xx", "", "xx", "xx", "", ""] : List Str).map PyData.str)) (.tuple ((["", "xx", "", "xx", "xx", "", ""] : List Str).map PyData.str)) = true by decide +kernel]
      refine iteF ?_
      refine ⟨_, rfl, .ref x, .str "aaa", ([1, 1] : List Nat).map (fun p : Nat => V.int p), rfl, ev_pieces (ps := [1, 1]) cv13 ok_ev (by decide +kernel) ⟨by decide +kernel, by decide +kernel, by decide +kernel, by decide +kernel, trivial⟩ (by decide) ev_3 fun R G14 s14 gR => ?_⟩
      refine ⟨(by show 3 ≤ sizeLine; decide), fun T3 hT3 => ?_⟩
      have s15 : Same G14 (upd G14 T3 (.tup [.str "xyy", .str "", .str "xx"])) := Same.new hT3
      have gT3 : upd G14 T3 (.tup [.str "xyy", .str "", .str "xx"]) T3 = some (.tup ((["xyy", "", "xx"] : List Str).map V.str)) := upd_same
      show (fun G15 => _) (upd G14 T3 (.tup [.str "xyy", .str "", .str "xx"]))
      generalize upd G14 T3 (.tup [.str "xyy", .str "", .str "xx"]) = G15 at s15 gT3
      have cv15 := cv13.same (s14.trans s15)
      refine ⟨_, _, .tup (SqT.of (s15 _ _ gR)) (dp_strs _), .tup (SqT.of gT3) (dp_strs _), by decide +kernel, by decide +kernel, _, rfl, ?_⟩
      rw [show PyData.eqv (.tuple ((["xyy", "", "xx"] : List Str).map PyData.str)) (.tuple ((["xyy", "", "xx"] : List Str).map PyData.str)) = true by decide +kernel]
      refine iteT ?_
      refine ⟨_, rfl, .ref x, .str "aa", .int ((1 : Nat) : Int), rfl, ev_cost (p := 1) cv15 ok_ev (by decide +kernel) (by decide +kernel) ev_a4 ev_4 fun G16 s16 => ?_⟩
      have cv16 := cv15.same s16
      refine ⟨_, rfl, .ref x, .str "aaa", .int ((1 : Nat) : Int), rfl, ev_cost (p := 1) cv16 ok_ev (by decide +kernel) (by decide +kernel) ev_a5 ev_5 fun G17 s17 => ?_⟩
      refine ⟨(by show 2 ≤ sizeLine; decide), fun L1 hL1 => ⟨(by show 2 ≤ sizeLine; decide), fun L2 hL2 => ?_⟩⟩
      refine ⟨_, _, .lst (SqL.of (upd_new hL2 upd_same)) (.cons (.int 4) (.cons (.int 0) .nil)), .lst (SqL.of upd_same) (.cons (.int 4) (.cons (.int 0) .nil)), by decide +kernel, by decide +kernel, ?_⟩
      rw [show PyData.eqv (.list [.int 4, .int 0]) (.list [.int 4, .int 0]) = true by decide +kernel]
      exact k _
end
end KC
namespace KC
open PySem L2
abbrev s_iBadConverter : Stmt := inClass (top 6) 0
abbrev s_iBadWord : Stmt := inClass (top 8) 0
abbrev s_iNoStep : Stmt := inClass (top 10) 0
abbrev s_iNoTail : Stmt := inClass (top 11) 0
abbrev s_iBadNumber : Stmt := inClass (top 7) 0
def clsB (K : PySem.W.Frag) (C : Addr) : Bool :=
  decide (PySem.W.findIn K (.ref C) "__class__" = some (some (.builtin "object.__class__"))) && (decide (PySem.W.specialIn K (.builtin "object.__class__") "__get__" = some (some (.builtin "getset_descriptor.__get__"))) && (decide (PySem.W.takesIn K (.builtin "object.__class__") = some true) && (decide (PySem.W.mroIn K C (.type "object") = some true) && (decide (PySem.W.kitOne K (.ref C) (.ref C) = some true) && (decide (PySem.W.kitOne K (.type "NoneType") (.ref C) = some false) && (decide (PySem.W.kitOne K (.type "int") (.ref C) = some false) && (decide (PySem.W.kitOne K (.type "str") (.ref C) = some false) && (decide (PySem.W.kitOne K (.type "dict") (.ref C) = some false) && (decide (PySem.W.kitOne K (.type "list") (.ref C) = some false) && (decide (PySem.W.kitOne K (.type "bool") (.ref C) = some false)))))))))))
def chk (K : PySem.W.Frag) : Bool :=
  (tabless K && ((match tabAt K "_law_cut", tabAt K "law" with
    | some a, some b => !(a == b)
    | _, _ => false))) && ((blts.all fun x => decide (PySem.W.nsIn K mainGlobals x = some none)) &&
  ((hNames.all fun x => exB K (["value", "at", "state", "part"] : List Str) x) &&
  ((hNames.all fun x => hNames.all fun y => kitNB2 K x y (decide (x = y))) &&
  ((hNames.all fun x => exmB2 K x "HeadError" true) &&
  ((match PySem.W.nsIn K mainGlobals "HeadError" with
    | some (some (.ref _)) => true
    | _ => false) &&
  (errB K "BadConverter" ["part"] && (errB K "BadWord" ["value"] && (errB K "NoStep" ["at", "state"] && (errB K "NoTail" ["state"] && (errB K "BadNumber" ["value"] &&
  (match PySem.W.nsIn K mainGlobals "Converter" with
    | some (some (.ref C)) => ownB K ["start", "states", "letters", "steps", "tails"] C && clsB K C
    | _ => false)))))))))))
theorem fin_mk {P : Program} {w : World} {K : PySem.W.Frag} {mg : Str → Option Value} {h : Heap} {fa : Addr} (X : K.In h) (G : h.Ns mainGlobals mg)
    (hmg : mg "law" = some (.ref fa)) (tbs : ∀ y ∈ (["_law_cut", "law"] : List Str), ∃ c T, TabOf mg h y c T) (c : chk K = true)
    {f0 : Addr} {od0 an0 : Option Addr} {sl0 : Array (Option Value)} {oc0 kV0 dc0 pm0 cd0 ct0 : Value}
    {f1 : Addr} {od1 an1 : Option Addr} {sl1 : Array (Option Value)} {oc1 kV1 dc1 pm1 cd1 ct1 : Value}
    {f2 : Addr} {od2 an2 : Option Addr} {sl2 : Array (Option Value)} {oc2 kV2 dc2 pm2 cd2 ct2 : Value}
    {f3 : Addr} {od3 an3 : Option Addr} {sl3 : Array (Option Value)} {oc3 kV3 dc3 pm3 cd3 ct3 : Value}
    {f4 : Addr} {od4 an4 : Option Addr} {sl4 : Array (Option Value)} {oc4 kV4 dc4 pm4 cd4 ct4 : Value}
    {f5 : Addr} {od5 an5 : Option Addr} {sl5 : Array (Option Value)} {oc5 kV5 dc5 pm5 cd5 ct5 : Value}
    {f6 : Addr} {od6 an6 : Option Addr} {sl6 : Array (Option Value)} {oc6 kV6 dc6 pm6 cd6 ct6 : Value}
    {f7 : Addr} {od7 an7 : Option Addr} {sl7 : Array (Option Value)} {oc7 kV7 dc7 pm7 cd7 ct7 : Value}
    {f8 : Addr} {od8 an8 : Option Addr} {sl8 : Array (Option Value)} {oc8 kV8 dc8 pm8 cd8 ct8 : Value}
    {f9 : Addr} {od9 an9 : Option Addr} {sl9 : Array (Option Value)} {oc9 kV9 dc9 pm9 cd9 ct9 : Value}
    {f10 : Addr} {od10 an10 : Option Addr} {sl10 : Array (Option Value)} {oc10 kV10 dc10 pm10 cd10 ct10 : Value}
    {f11 : Addr} {od11 an11 : Option Addr} {sl11 : Array (Option Value)} {oc11 kV11 dc11 pm11 cd11 ct11 : Value}
    {f12 : Addr} {od12 an12 : Option Addr} {sl12 : Array (Option Value)} {oc12 kV12 dc12 pm12 cd12 ct12 : Value}
    {f13 : Addr} {od13 an13 : Option Addr} {sl13 : Array (Option Value)} {oc13 kV13 dc13 pm13 cd13 ct13 : Value}
    {f14 : Addr} {od14 an14 : Option Addr} {sl14 : Array (Option Value)} {oc14 kV14 dc14 pm14 cd14 ct14 : Value}
    {f15 : Addr} {od15 an15 : Option Addr} {sl15 : Array (Option Value)} {oc15 kV15 dc15 pm15 cd15 ct15 : Value}
    {f16 : Addr} {od16 an16 : Option Addr} {sl16 : Array (Option Value)} {oc16 kV16 dc16 pm16 cd16 ct16 : Value}
    {f17 : Addr} {od17 an17 : Option Addr} {sl17 : Array (Option Value)} {oc17 kV17 dc17 pm17 cd17 ct17 : Value}
    {f18 : Addr} {od18 an18 : Option Addr} {sl18 : Array (Option Value)} {oc18 kV18 dc18 pm18 cd18 ct18 : Value}
    {f19 : Addr} {od19 an19 : Option Addr} {sl19 : Array (Option Value)} {oc19 kV19 dc19 pm19 cd19 ct19 : Value}
    {f20 : Addr} {od20 an20 : Option Addr} {sl20 : Array (Option Value)} {oc20 kV20 dc20 pm20 cd20 ct20 : Value}
    {f21 : Addr} {od21 an21 : Option Addr} {sl21 : Array (Option Value)} {oc21 kV21 dc21 pm21 cd21 ct21 : Value}
    {f22 : Addr} {od22 an22 : Option Addr} {sl22 : Array (Option Value)} {oc22 kV22 dc22 pm22 cd22 ct22 : Value}
    {f23 : Addr} {od23 an23 : Option Addr} {sl23 : Array (Option Value)} {oc23 kV23 dc23 pm23 cd23 ct23 : Value}
    {f24 : Addr} {od24 an24 : Option Addr} {sl24 : Array (Option Value)} {oc24 kV24 dc24 pm24 cd24 ct24 : Value}
    {f25 : Addr} {od25 an25 : Option Addr} {sl25 : Array (Option Value)} {oc25 kV25 dc25 pm25 cd25 ct25 : Value}
    {f26 : Addr} {od26 an26 : Option Addr} {sl26 : Array (Option Value)} {oc26 kV26 dc26 pm26 cd26 ct26 : Value}
    {f27 : Addr} {od27 an27 : Option Addr} {sl27 : Array (Option Value)} {oc27 kV27 dc27 pm27 cd27 ct27 : Value}
    {f28 : Addr} {od28 an28 : Option Addr} {sl28 : Array (Option Value)} {oc28 kV28 dc28 pm28 cd28 ct28 : Value}
    {f29 : Addr} {od29 an29 : Option Addr} {sl29 : Array (Option Value)} {oc29 kV29 dc29 pm29 cd29 ct29 : Value}
    {f30 : Addr} {od30 an30 : Option Addr} {sl30 : Array (Option Value)} {oc30 kV30 dc30 pm30 cd30 ct30 : Value}
    {f31 : Addr} {od31 an31 : Option Addr} {sl31 : Array (Option Value)} {oc31 kV31 dc31 pm31 cd31 ct31 : Value}
    {f32 : Addr} {od32 an32 : Option Addr} {sl32 : Array (Option Value)} {oc32 kV32 dc32 pm32 cd32 ct32 : Value}
    {f33 : Addr} {od33 an33 : Option Addr} {sl33 : Array (Option Value)} {oc33 kV33 dc33 pm33 cd33 ct33 : Value}
    {f34 : Addr} {od34 an34 : Option Addr} {sl34 : Array (Option Value)} {oc34 kV34 dc34 pm34 cd34 ct34 : Value}
    {f35 : Addr} {od35 an35 : Option Addr} {sl35 : Array (Option Value)} {oc35 kV35 dc35 pm35 cd35 ct35 : Value}
    {t0 : Tok}
    {t1 : Tok}
    {t2 : Tok}
    {t3 : Tok}
    {C : Addr}
    {u0 : Tok}
    {u1 : Tok}
    {f40 : Addr} {od40 an40 : Option Addr} {sl40 : Array (Option Value)} {oc40 kV40 dc40 pm40 cd40 ct40 : Value}
    {f41 : Addr} {od41 an41 : Option Addr} {sl41 : Array (Option Value)} {oc41 kV41 dc41 pm41 cd41 ct41 : Value}
    {f60 : Addr} {od60 an60 : Option Addr} {sl60 : Array (Option Value)} {oc60 kV60 dc60 pm60 cd60 ct60 : Value} {D60 : Addr}
    {f61 : Addr} {od61 an61 : Option Addr} {sl61 : Array (Option Value)} {oc61 kV61 dc61 pm61 cd61 ct61 : Value} {D61 : Addr}
    {f62 : Addr} {od62 an62 : Option Addr} {sl62 : Array (Option Value)} {oc62 kV62 dc62 pm62 cd62 ct62 : Value} {D62 : Addr}
    {f63 : Addr} {od63 an63 : Option Addr} {sl63 : Array (Option Value)} {oc63 kV63 dc63 pm63 cd63 ct63 : Value} {D63 : Addr}
    {f64 : Addr} {od64 an64 : Option Addr} {sl64 : Array (Option Value)} {oc64 kV64 dc64 pm64 cd64 ct64 : Value} {D64 : Addr}
    (a0 : PySem.W.nsIn K mainGlobals "is_pair" = some (some (.ref f0)))
    (l0 : K.lookup f0 = some ⟨oc0, od0, .func (PySem.W.fnOf "is_pair" "is_pair" (defArgs s_ipair) (defBody s_ipair) (defScope s_ipair) .none kV0 dc0 pm0 an0 cd0 ct0), sl0⟩)
    (c0 : PySem.W.codeIn K cd0 "is_pair" = true) (k0 : PySem.W.keepIn K (.ref f0) = true)
    (a1 : PySem.W.nsIn K mainGlobals "is_letters" = some (some (.ref f1)))
    (l1 : K.lookup f1 = some ⟨oc1, od1, .func (PySem.W.fnOf "is_letters" "is_letters" (defArgs s_iletters) (defBody s_iletters) (defScope s_iletters) .none kV1 dc1 pm1 an1 cd1 ct1), sl1⟩)
    (c1 : PySem.W.codeIn K cd1 "is_letters" = true) (k1 : PySem.W.keepIn K (.ref f1) = true)
    (a2 : PySem.W.nsIn K mainGlobals "is_letter" = some (some (.ref f2)))
    (l2 : K.lookup f2 = some ⟨oc2, od2, .func (PySem.W.fnOf "is_letter" "is_letter" (defArgs s_iletter) (defBody s_iletter) (defScope s_iletter) .none kV2 dc2 pm2 an2 cd2 ct2), sl2⟩)
    (c2 : PySem.W.codeIn K cd2 "is_letter" = true) (k2 : PySem.W.keepIn K (.ref f2) = true)
    (a3 : PySem.W.nsIn K mainGlobals "is_name" = some (some (.ref f3)))
    (l3 : K.lookup f3 = some ⟨oc3, od3, .func (PySem.W.fnOf "is_name" "is_name" (defArgs s_iname) (defBody s_iname) (defScope s_iname) .none kV3 dc3 pm3 an3 cd3 ct3), sl3⟩)
    (c3 : PySem.W.codeIn K cd3 "is_name" = true) (k3 : PySem.W.keepIn K (.ref f3) = true)
    (a4 : PySem.W.nsIn K mainGlobals "is_answer" = some (some (.ref f4)))
    (l4 : K.lookup f4 = some ⟨oc4, od4, .func (PySem.W.fnOf "is_answer" "is_answer" (defArgs s_ianswer) (defBody s_ianswer) (defScope s_ianswer) .none kV4 dc4 pm4 an4 cd4 ct4), sl4⟩)
    (c4 : PySem.W.codeIn K cd4 "is_answer" = true) (k4 : PySem.W.keepIn K (.ref f4) = true)
    (a5 : PySem.W.nsIn K mainGlobals "is_text" = some (some (.ref f5)))
    (l5 : K.lookup f5 = some ⟨oc5, od5, .func (PySem.W.fnOf "is_text" "is_text" (defArgs s_itext) (defBody s_itext) (defScope s_itext) .none kV5 dc5 pm5 an5 cd5 ct5), sl5⟩)
    (c5 : PySem.W.codeIn K cd5 "is_text" = true) (k5 : PySem.W.keepIn K (.ref f5) = true)
    (a6 : PySem.W.nsIn K mainGlobals "is_goal" = some (some (.ref f6)))
    (l6 : K.lookup f6 = some ⟨oc6, od6, .func (PySem.W.fnOf "is_goal" "is_goal" (defArgs s_igoal) (defBody s_igoal) (defScope s_igoal) .none kV6 dc6 pm6 an6 cd6 ct6), sl6⟩)
    (c6 : PySem.W.codeIn K cd6 "is_goal" = true) (k6 : PySem.W.keepIn K (.ref f6) = true)
    (a7 : PySem.W.nsIn K mainGlobals "are_steps" = some (some (.ref f7)))
    (l7 : K.lookup f7 = some ⟨oc7, od7, .func (PySem.W.fnOf "are_steps" "are_steps" (defArgs s_asteps) (defBody s_asteps) (defScope s_asteps) .none kV7 dc7 pm7 an7 cd7 ct7), sl7⟩)
    (c7 : PySem.W.codeIn K cd7 "are_steps" = true) (k7 : PySem.W.keepIn K (.ref f7) = true)
    (a8 : PySem.W.nsIn K mainGlobals "are_tails" = some (some (.ref f8)))
    (l8 : K.lookup f8 = some ⟨oc8, od8, .func (PySem.W.fnOf "are_tails" "are_tails" (defArgs s_atails) (defBody s_atails) (defScope s_atails) .none kV8 dc8 pm8 an8 cd8 ct8), sl8⟩)
    (c8 : PySem.W.codeIn K cd8 "are_tails" = true) (k8 : PySem.W.keepIn K (.ref f8) = true)
    (a9 : PySem.W.nsIn K mainGlobals "state_names" = some (some (.ref f9)))
    (l9 : K.lookup f9 = some ⟨oc9, od9, .func (PySem.W.fnOf "state_names" "state_names" (defArgs s_snames) (defBody s_snames) (defScope s_snames) .none kV9 dc9 pm9 an9 cd9 ct9), sl9⟩)
    (c9 : PySem.W.codeIn K cd9 "state_names" = true) (k9 : PySem.W.keepIn K (.ref f9) = true)
    (a10 : PySem.W.nsIn K mainGlobals "step_letters" = some (some (.ref f10)))
    (l10 : K.lookup f10 = some ⟨oc10, od10, .func (PySem.W.fnOf "step_letters" "step_letters" (defArgs s_sletters) (defBody s_sletters) (defScope s_sletters) .none kV10 dc10 pm10 an10 cd10 ct10), sl10⟩)
    (c10 : PySem.W.codeIn K cd10 "step_letters" = true) (k10 : PySem.W.keepIn K (.ref f10) = true)
    (a11 : PySem.W.nsIn K mainGlobals "followed" = some (some (.ref f11)))
    (l11 : K.lookup f11 = some ⟨oc11, od11, .func (PySem.W.fnOf "followed" "followed" (defArgs s_followed) (defBody s_followed) (defScope s_followed) .none kV11 dc11 pm11 an11 cd11 ct11), sl11⟩)
    (c11 : PySem.W.codeIn K cd11 "followed" = true) (k11 : PySem.W.keepIn K (.ref f11) = true)
    (a12 : PySem.W.nsIn K mainGlobals "_law_pen" = some (some (.ref f12)))
    (l12 : K.lookup f12 = some ⟨oc12, od12, .func (PySem.W.fnOf "_law_pen" "_law_pen" (defArgs s_lpen) (defBody s_lpen) (defScope s_lpen) .none kV12 dc12 pm12 an12 cd12 ct12), sl12⟩)
    (c12 : PySem.W.codeIn K cd12 "_law_pen" = true) (k12 : PySem.W.keepIn K (.ref f12) = true)
    (a13 : PySem.W.nsIn K mainGlobals "_law_draw" = some (some (.ref f13)))
    (l13 : K.lookup f13 = some ⟨oc13, od13, .func (PySem.W.fnOf "_law_draw" "_law_draw" (defArgs s_ldraw) (defBody s_ldraw) (defScope s_ldraw) .none kV13 dc13 pm13 an13 cd13 ct13), sl13⟩)
    (c13 : PySem.W.codeIn K cd13 "_law_draw" = true) (k13 : PySem.W.keepIn K (.ref f13) = true)
    (a14 : PySem.W.nsIn K mainGlobals "_law_pick" = some (some (.ref f14)))
    (l14 : K.lookup f14 = some ⟨oc14, od14, .func (PySem.W.fnOf "_law_pick" "_law_pick" (defArgs s_lpick) (defBody s_lpick) (defScope s_lpick) .none kV14 dc14 pm14 an14 cd14 ct14), sl14⟩)
    (c14 : PySem.W.codeIn K cd14 "_law_pick" = true) (k14 : PySem.W.keepIn K (.ref f14) = true)
    (a15 : PySem.W.nsIn K mainGlobals "_law_plan" = some (some (.ref f15)))
    (l15 : K.lookup f15 = some ⟨oc15, od15, .func (PySem.W.fnOf "_law_plan" "_law_plan" (defArgs s_lplan) (defBody s_lplan) (defScope s_lplan) .none kV15 dc15 pm15 an15 cd15 ct15), sl15⟩)
    (c15 : PySem.W.codeIn K cd15 "_law_plan" = true) (k15 : PySem.W.keepIn K (.ref f15) = true)
    (a16 : PySem.W.nsIn K mainGlobals "_law_made" = some (some (.ref f16)))
    (l16 : K.lookup f16 = some ⟨oc16, od16, .func (PySem.W.fnOf "_law_made" "_law_made" (defArgs s_lmade) (defBody s_lmade) (defScope s_lmade) .none kV16 dc16 pm16 an16 cd16 ct16), sl16⟩)
    (c16 : PySem.W.codeIn K cd16 "_law_made" = true) (k16 : PySem.W.keepIn K (.ref f16) = true)
    (a17 : PySem.W.nsIn K mainGlobals "_law_behind" = some (some (.ref f17)))
    (l17 : K.lookup f17 = some ⟨oc17, od17, .func (PySem.W.fnOf "_law_behind" "_law_behind" (defArgs s_lbehind) (defBody s_lbehind) (defScope s_lbehind) .none kV17 dc17 pm17 an17 cd17 ct17), sl17⟩)
    (c17 : PySem.W.codeIn K cd17 "_law_behind" = true) (k17 : PySem.W.keepIn K (.ref f17) = true)
    (a18 : PySem.W.nsIn K mainGlobals "_law_useful" = some (some (.ref f18)))
    (l18 : K.lookup f18 = some ⟨oc18, od18, .func (PySem.W.fnOf "_law_useful" "_law_useful" (defArgs s_luseful) (defBody s_luseful) (defScope s_luseful) .none kV18 dc18 pm18 an18 cd18 ct18), sl18⟩)
    (c18 : PySem.W.codeIn K cd18 "_law_useful" = true) (k18 : PySem.W.keepIn K (.ref f18) = true)
    (a19 : PySem.W.nsIn K mainGlobals "_law_run" = some (some (.ref f19)))
    (l19 : K.lookup f19 = some ⟨oc19, od19, .func (PySem.W.fnOf "_law_run" "_law_run" (defArgs s_lrun) (defBody s_lrun) (defScope s_lrun) .none kV19 dc19 pm19 an19 cd19 ct19), sl19⟩)
    (c19 : PySem.W.codeIn K cd19 "_law_run" = true) (k19 : PySem.W.keepIn K (.ref f19) = true)
    (a20 : PySem.W.nsIn K mainGlobals "_law_is_taken" = some (some (.ref f20)))
    (l20 : K.lookup f20 = some ⟨oc20, od20, .func (PySem.W.fnOf "_law_is_taken" "_law_is_taken" (defArgs s_listaken) (defBody s_listaken) (defScope s_listaken) .none kV20 dc20 pm20 an20 cd20 ct20), sl20⟩)
    (c20 : PySem.W.codeIn K cd20 "_law_is_taken" = true) (k20 : PySem.W.keepIn K (.ref f20) = true)
    (a21 : PySem.W.nsIn K mainGlobals "_law_answer" = some (some (.ref f21)))
    (l21 : K.lookup f21 = some ⟨oc21, od21, .func (PySem.W.fnOf "_law_answer" "_law_answer" (defArgs s_lanswer) (defBody s_lanswer) (defScope s_lanswer) .none kV21 dc21 pm21 an21 cd21 ct21), sl21⟩)
    (c21 : PySem.W.codeIn K cd21 "_law_answer" = true) (k21 : PySem.W.keepIn K (.ref f21) = true)
    (a22 : PySem.W.nsIn K mainGlobals "_law_text" = some (some (.ref f22)))
    (l22 : K.lookup f22 = some ⟨oc22, od22, .func (PySem.W.fnOf "_law_text" "_law_text" (defArgs s_ltext) (defBody s_ltext) (defScope s_ltext) .none kV22 dc22 pm22 an22 cd22 ct22), sl22⟩)
    (c22 : PySem.W.codeIn K cd22 "_law_text" = true) (k22 : PySem.W.keepIn K (.ref f22) = true)
    (a23 : PySem.W.nsIn K mainGlobals "_law_home" = some (some (.ref f23)))
    (l23 : K.lookup f23 = some ⟨oc23, od23, .func (PySem.W.fnOf "_law_home" "_law_home" (defArgs s_lhome) (defBody s_lhome) (defScope s_lhome) .none kV23 dc23 pm23 an23 cd23 ct23), sl23⟩)
    (c23 : PySem.W.codeIn K cd23 "_law_home" = true) (k23 : PySem.W.keepIn K (.ref f23) = true)
    (a24 : PySem.W.nsIn K mainGlobals "_law_heard" = some (some (.ref f24)))
    (l24 : K.lookup f24 = some ⟨oc24, od24, .func (PySem.W.fnOf "_law_heard" "_law_heard" (defArgs s_lheard) (defBody s_lheard) (defScope s_lheard) .none kV24 dc24 pm24 an24 cd24 ct24), sl24⟩)
    (c24 : PySem.W.codeIn K cd24 "_law_heard" = true) (k24 : PySem.W.keepIn K (.ref f24) = true)
    (a25 : PySem.W.nsIn K mainGlobals "_law_piece" = some (some (.ref f25)))
    (l25 : K.lookup f25 = some ⟨oc25, od25, .func (PySem.W.fnOf "_law_piece" "_law_piece" (defArgs s_lpiece) (defBody s_lpiece) (defScope s_lpiece) .none kV25 dc25 pm25 an25 cd25 ct25), sl25⟩)
    (c25 : PySem.W.codeIn K cd25 "_law_piece" = true) (k25 : PySem.W.keepIn K (.ref f25) = true)
    (a26 : PySem.W.nsIn K mainGlobals "_law_due" = some (some (.ref f26)))
    (l26 : K.lookup f26 = some ⟨oc26, od26, .func (PySem.W.fnOf "_law_due" "_law_due" (defArgs s_ldue) (defBody s_ldue) (defScope s_ldue) .none kV26 dc26 pm26 an26 cd26 ct26), sl26⟩)
    (c26 : PySem.W.codeIn K cd26 "_law_due" = true) (k26 : PySem.W.keepIn K (.ref f26) = true)
    (a27 : PySem.W.nsIn K mainGlobals "_law_cost_due" = some (some (.ref f27)))
    (l27 : K.lookup f27 = some ⟨oc27, od27, .func (PySem.W.fnOf "_law_cost_due" "_law_cost_due" (defArgs s_lcostdue) (defBody s_lcostdue) (defScope s_lcostdue) .none kV27 dc27 pm27 an27 cd27 ct27), sl27⟩)
    (c27 : PySem.W.codeIn K cd27 "_law_cost_due" = true) (k27 : PySem.W.keepIn K (.ref f27) = true)
    (a28 : PySem.W.nsIn K mainGlobals "_law_cut" = some (some (.ref f28)))
    (l28 : K.lookup f28 = some ⟨oc28, od28, .func (PySem.W.fnOf "_law_cut" "_law_cut" (defArgs s_lcut) (defBody s_lcut) (defScope s_lcut) .none kV28 dc28 pm28 an28 cd28 ct28), sl28⟩)
    (c28 : PySem.W.codeIn K cd28 "_law_cut" = true) (k28 : PySem.W.keepIn K (.ref f28) = true)
    (a29 : PySem.W.nsIn K mainGlobals "law" = some (some (.ref f29)))
    (l29 : K.lookup f29 = some ⟨oc29, od29, .func (PySem.W.fnOf "law" "law" (defArgs s_law) (defBody s_law) (defScope s_law) .none kV29 dc29 pm29 an29 cd29 ct29), sl29⟩)
    (c29 : PySem.W.codeIn K cd29 "law" = true) (k29 : PySem.W.keepIn K (.ref f29) = true)
    (a30 : PySem.W.nsIn K mainGlobals "check_converter" = some (some (.ref f30)))
    (l30 : K.lookup f30 = some ⟨oc30, od30, .func (PySem.W.fnOf "check_converter" "check_converter" (defArgs s_check_converter) (defBody s_check_converter) (defScope s_check_converter) .none kV30 dc30 pm30 an30 cd30 ct30), sl30⟩)
    (c30 : PySem.W.codeIn K cd30 "check_converter" = true) (k30 : PySem.W.keepIn K (.ref f30) = true)
    (a31 : PySem.W.nsIn K mainGlobals "piece" = some (some (.ref f31)))
    (l31 : K.lookup f31 = some ⟨oc31, od31, .func (PySem.W.fnOf "piece" "piece" (defArgs s_piece) (defBody s_piece) (defScope s_piece) .none kV31 dc31 pm31 an31 cd31 ct31), sl31⟩)
    (c31 : PySem.W.codeIn K cd31 "piece" = true) (k31 : PySem.W.keepIn K (.ref f31) = true)
    (a32 : PySem.W.nsIn K mainGlobals "is_integer" = some (some (.ref f32)))
    (l32 : K.lookup f32 = some ⟨oc32, od32, .func (PySem.W.fnOf "is_integer" "is_integer" (defArgs s_iinteger) (defBody s_iinteger) (defScope s_iinteger) .none kV32 dc32 pm32 an32 cd32 ct32), sl32⟩)
    (c32 : PySem.W.codeIn K cd32 "is_integer" = true) (k32 : PySem.W.keepIn K (.ref f32) = true)
    (a33 : PySem.W.nsIn K mainGlobals "is_count" = some (some (.ref f33)))
    (l33 : K.lookup f33 = some ⟨oc33, od33, .func (PySem.W.fnOf "is_count" "is_count" (defArgs s_icount) (defBody s_icount) (defScope s_icount) .none kV33 dc33 pm33 an33 cd33 ct33), sl33⟩)
    (c33 : PySem.W.codeIn K cd33 "is_count" = true) (k33 : PySem.W.keepIn K (.ref f33) = true)
    (a34 : PySem.W.nsIn K mainGlobals "pieces" = some (some (.ref f34)))
    (l34 : K.lookup f34 = some ⟨oc34, od34, .func (PySem.W.fnOf "pieces" "pieces" (defArgs s_pieces) (defBody s_pieces) (defScope s_pieces) .none kV34 dc34 pm34 an34 cd34 ct34), sl34⟩)
    (c34 : PySem.W.codeIn K cd34 "pieces" = true) (k34 : PySem.W.keepIn K (.ref f34) = true)
    (a35 : PySem.W.nsIn K mainGlobals "cost" = some (some (.ref f35)))
    (l35 : K.lookup f35 = some ⟨oc35, od35, .func (PySem.W.fnOf "cost" "cost" (defArgs s_cost) (defBody s_cost) (defScope s_cost) .none kV35 dc35 pm35 an35 cd35 ct35), sl35⟩)
    (c35 : PySem.W.codeIn K cd35 "cost" = true) (k35 : PySem.W.keepIn K (.ref f35) = true)
    (G0 : PySem.W.nsIn K mainGlobals "LETTERS" = some (some (.str "abcdefghijklmnopqrstuvwxyz" t0)))
    (G1 : PySem.W.nsIn K mainGlobals "LONGEST_NAME" = some (some (.int 8 t1)))
    (G2 : PySem.W.nsIn K mainGlobals "LONGEST_ANSWER" = some (some (.int 4 t2)))
    (G3 : PySem.W.nsIn K mainGlobals "LONGEST_TEXT" = some (some (.int 400 t3)))
    (A : PySem.W.nsIn K mainGlobals "Converter" = some (some (.ref C)))
    (N0 : PySem.W.findIn K (.ref C) "MOST" = some (some (.int 6 u0)))
    (O0 : PySem.W.specialIn K (.int 6 u0) "__get__" = some none)
    (N1 : PySem.W.findIn K (.ref C) "MOST_LETTERS" = some (some (.int 4 u1)))
    (O1 : PySem.W.specialIn K (.int 4 u1) "__get__" = some none)
    (I40 : PySem.W.findIn K (.ref C) "__init__" = some (some (.ref f40)))
    (J40 : PySem.W.isFn K (.ref f40) = true)
    (l40 : K.lookup f40 = some ⟨oc40, od40, .func (PySem.W.fnOf "__init__" "Converter.__init__" (defArgs s_init) (defBody s_init) (defScope s_init) .none kV40 dc40 pm40 an40 cd40 ct40), sl40⟩)
    (c40 : PySem.W.codeIn K cd40 "Converter.__init__" = true) (k40 : PySem.W.keepIn K (.ref f40) = true)
    (I41 : PySem.W.findIn K (.ref C) "__call__" = some (some (.ref f41)))
    (J41 : PySem.W.typeIn K (.ref f41) = some (.type "function")) (Q41 : PySem.W.fnIn K f41 = true)
    (l41 : K.lookup f41 = some ⟨oc41, od41, .func (PySem.W.fnOf "__call__" "Converter.__call__" (defArgs s_call) (defBody s_call) (defScope s_call) .none kV41 dc41 pm41 an41 cd41 ct41), sl41⟩)
    (c41 : PySem.W.codeIn K cd41 "Converter.__call__" = true) (k41 : PySem.W.keepIn K (.ref f41) = true)
    (A60 : PySem.W.nsIn K mainGlobals "BadConverter" = some (some (.ref D60)))
    (I60 : PySem.W.findIn K (.ref D60) "__init__" = some (some (.ref f60))) (T60 : PySem.W.typeIn K (.ref f60) = some (.type "function"))
    (l60 : K.lookup f60 = some ⟨oc60, od60, .func (PySem.W.fnOf "__init__" "BadConverter.__init__" (defArgs s_iBadConverter) (defBody s_iBadConverter) (defScope s_iBadConverter) .none kV60 dc60 pm60 an60 cd60 ct60), sl60⟩)
    (c60 : PySem.W.codeIn K cd60 "BadConverter.__init__" = true) (k60 : PySem.W.keepIn K (.ref f60) = true)
    (A61 : PySem.W.nsIn K mainGlobals "BadWord" = some (some (.ref D61)))
    (I61 : PySem.W.findIn K (.ref D61) "__init__" = some (some (.ref f61))) (T61 : PySem.W.typeIn K (.ref f61) = some (.type "function"))
    (l61 : K.lookup f61 = some ⟨oc61, od61, .func (PySem.W.fnOf "__init__" "BadWord.__init__" (defArgs s_iBadWord) (defBody s_iBadWord) (defScope s_iBadWord) .none kV61 dc61 pm61 an61 cd61 ct61), sl61⟩)
    (c61 : PySem.W.codeIn K cd61 "BadWord.__init__" = true) (k61 : PySem.W.keepIn K (.ref f61) = true)
    (A62 : PySem.W.nsIn K mainGlobals "NoStep" = some (some (.ref D62)))
    (I62 : PySem.W.findIn K (.ref D62) "__init__" = some (some (.ref f62))) (T62 : PySem.W.typeIn K (.ref f62) = some (.type "function"))
    (l62 : K.lookup f62 = some ⟨oc62, od62, .func (PySem.W.fnOf "__init__" "NoStep.__init__" (defArgs s_iNoStep) (defBody s_iNoStep) (defScope s_iNoStep) .none kV62 dc62 pm62 an62 cd62 ct62), sl62⟩)
    (c62 : PySem.W.codeIn K cd62 "NoStep.__init__" = true) (k62 : PySem.W.keepIn K (.ref f62) = true)
    (A63 : PySem.W.nsIn K mainGlobals "NoTail" = some (some (.ref D63)))
    (I63 : PySem.W.findIn K (.ref D63) "__init__" = some (some (.ref f63))) (T63 : PySem.W.typeIn K (.ref f63) = some (.type "function"))
    (l63 : K.lookup f63 = some ⟨oc63, od63, .func (PySem.W.fnOf "__init__" "NoTail.__init__" (defArgs s_iNoTail) (defBody s_iNoTail) (defScope s_iNoTail) .none kV63 dc63 pm63 an63 cd63 ct63), sl63⟩)
    (c63 : PySem.W.codeIn K cd63 "NoTail.__init__" = true) (k63 : PySem.W.keepIn K (.ref f63) = true)
    (A64 : PySem.W.nsIn K mainGlobals "BadNumber" = some (some (.ref D64)))
    (I64 : PySem.W.findIn K (.ref D64) "__init__" = some (some (.ref f64))) (T64 : PySem.W.typeIn K (.ref f64) = some (.type "function"))
    (l64 : K.lookup f64 = some ⟨oc64, od64, .func (PySem.W.fnOf "__init__" "BadNumber.__init__" (defArgs s_iBadNumber) (defBody s_iBadNumber) (defScope s_iBadNumber) .none kV64 dc64 pm64 an64 cd64 ct64), sl64⟩)
    (c64 : PySem.W.codeIn K cd64 "BadNumber.__init__" = true) (k64 : PySem.W.keepIn K (.ref f64) = true)
    : ∃ (fd : FuncData) (cs : List (Addr × Addr)) (sp : Sp), (∀ p ∈ cs, ∃ y, TabOf mg h y p.1 p.2) ∧ (∀ p ∈ cs, K.lookup p.2 = none) ∧ (∀ (s : Shared) (u : Value), BindsTo s fd ⟨[u], []⟩ [("_law_script", u)]) ∧
      (∀ (H : Hp) (a : Addr) (ns : List Int), ns.length ≤ 63 → (∀ p ∈ cs, H p.2 = some (.tbl #[])) → SqL K H a (ns.map V.int) → sp [.ref a] H (fun v _ => v = .bl true) E0) ∧
      ∀ base : Heap, K.In base → base.Ns mainGlobals mg → (∀ p ∈ cs, LamX.TabB base mg p.1 p.2) → FnG P w K mg base CX0 10 fa fd ["_law_script"] sp := by
  have d0 : OwnD K mg "is_pair" s_ipair ["value"] := own_mk X G a0 l0 c0 k0 (fun _ _ _ _ _ _ us hl => match us, hl with | [_], _ => rfl)
  have d1 : OwnD K mg "is_letters" s_iletters ["value", "least", "most"] := own_mk X G a1 l1 c1 k1 (fun _ _ _ _ _ _ us hl => match us, hl with | [_, _, _], _ => rfl)
  have d2 : OwnD K mg "is_letter" s_iletter ["value"] := own_mk X G a2 l2 c2 k2 (fun _ _ _ _ _ _ us hl => match us, hl with | [_], _ => rfl)
  have d3 : OwnD K mg "is_name" s_iname ["value"] := own_mk X G a3 l3 c3 k3 (fun _ _ _ _ _ _ us hl => match us, hl with | [_], _ => rfl)
  have d4 : OwnD K mg "is_answer" s_ianswer ["value"] := own_mk X G a4 l4 c4 k4 (fun _ _ _ _ _ _ us hl => match us, hl with | [_], _ => rfl)
  have d5 : OwnD K mg "is_text" s_itext ["value"] := own_mk X G a5 l5 c5 k5 (fun _ _ _ _ _ _ us hl => match us, hl with | [_], _ => rfl)
  have d6 : OwnD K mg "is_goal" s_igoal ["value"] := own_mk X G a6 l6 c6 k6 (fun _ _ _ _ _ _ us hl => match us, hl with | [_], _ => rfl)
  have d7 : OwnD K mg "are_steps" s_asteps ["steps"] := own_mk X G a7 l7 c7 k7 (fun _ _ _ _ _ _ us hl => match us, hl with | [_], _ => rfl)
  have d8 : OwnD K mg "are_tails" s_atails ["tails"] := own_mk X G a8 l8 c8 k8 (fun _ _ _ _ _ _ us hl => match us, hl with | [_], _ => rfl)
  have d9 : OwnD K mg "state_names" s_snames ["start", "steps", "tails"] := own_mk X G a9 l9 c9 k9 (fun _ _ _ _ _ _ us hl => match us, hl with | [_, _, _], _ => rfl)
  have d10 : OwnD K mg "step_letters" s_sletters ["steps"] := own_mk X G a10 l10 c10 k10 (fun _ _ _ _ _ _ us hl => match us, hl with | [_], _ => rfl)
  have d11 : OwnD K mg "followed" s_followed ["converter", "start", "text"] := own_mk X G a11 l11 c11 k11 (fun _ _ _ _ _ _ us hl => match us, hl with | [_, _, _], _ => rfl)
  have d12 : OwnD K mg "_law_pen" s_lpen ["_law_script"] := own_mk X G a12 l12 c12 k12 (fun _ _ _ _ _ _ us hl => match us, hl with | [_], _ => rfl)
  have d13 : OwnD K mg "_law_draw" s_ldraw ["_law_pen_here", "_law_many"] := own_mk X G a13 l13 c13 k13 (fun _ _ _ _ _ _ us hl => match us, hl with | [_, _], _ => rfl)
  have d14 : OwnD K mg "_law_pick" s_lpick ["_law_pen_here", "_law_some"] := own_mk X G a14 l14 c14 k14 (fun _ _ _ _ _ _ us hl => match us, hl with | [_, _], _ => rfl)
  have d15 : OwnD K mg "_law_plan" s_lplan ["_law_pen_here", "_law_most"] := own_mk X G a15 l15 c15 k15 (fun _ _ _ _ _ _ us hl => match us, hl with | [_, _], _ => rfl)
  have d16 : OwnD K mg "_law_made" s_lmade ["_law_plan_here"] := own_mk X G a16 l16 c16 k16 (fun _ _ _ _ _ _ us hl => match us, hl with | [_], _ => rfl)
  have d17 : OwnD K mg "_law_behind" s_lbehind ["_law_plan_here", "_law_states"] := own_mk X G a17 l17 c17 k17 (fun _ _ _ _ _ _ us hl => match us, hl with | [_, _], _ => rfl)
  have d18 : OwnD K mg "_law_useful" s_luseful ["_law_plan_here"] := own_mk X G a18 l18 c18 k18 (fun _ _ _ _ _ _ us hl => match us, hl with | [_], _ => rfl)
  have d19 : OwnD K mg "_law_run" s_lrun ["_law_plan_here", "_law_text_here"] := own_mk X G a19 l19 c19 k19 (fun _ _ _ _ _ _ us hl => match us, hl with | [_, _], _ => rfl)
  have d20 : OwnD K mg "_law_is_taken" s_listaken ["_law_plan_here", "_law_text_here"] := own_mk X G a20 l20 c20 k20 (fun _ _ _ _ _ _ us hl => match us, hl with | [_, _], _ => rfl)
  have d21 : OwnD K mg "_law_answer" s_lanswer ["_law_plan_here", "_law_text_here"] := own_mk X G a21 l21 c21 k21 (fun _ _ _ _ _ _ us hl => match us, hl with | [_, _], _ => rfl)
  have d22 : OwnD K mg "_law_text" s_ltext ["_law_pen_here", "_law_plan_here", "_law_most"] := own_mk X G a22 l22 c22 k22 (fun _ _ _ _ _ _ us hl => match us, hl with | [_, _, _], _ => rfl)
  have d23 : OwnD K mg "_law_home" s_lhome ["_law_pen_here", "_law_plan_here", "_law_text_here"] := own_mk X G a23 l23 c23 k23 (fun _ _ _ _ _ _ us hl => match us, hl with | [_, _, _], _ => rfl)
  have d24 : OwnD K mg "_law_heard" s_lheard ["_law_call"] := own_mk X G a24 l24 c24 k24 (fun _ _ _ _ _ _ us hl => match us, hl with | [_], _ => rfl)
  have d25 : OwnD K mg "_law_piece" s_lpiece ["_law_plan_here", "_law_text_here", "_law_first"] := own_mk X G a25 l25 c25 k25 (fun _ _ _ _ _ _ us hl => match us, hl with | [_, _, _], _ => rfl)
  have d26 : OwnD K mg "_law_due" s_ldue ["_law_plan_here", "_law_text_here", "_law_places"] := own_mk X G a26 l26 c26 k26 (fun _ _ _ _ _ _ us hl => match us, hl with | [_, _, _], _ => rfl)
  have d27 : OwnD K mg "_law_cost_due" s_lcostdue ["_law_plan_here", "_law_text_here", "_law_at"] := own_mk X G a27 l27 c27 k27 (fun _ _ _ _ _ _ us hl => match us, hl with | [_, _, _], _ => rfl)
  have d28 : OwnD K mg "_law_cut" s_lcut ["_law_made_here", "_law_text_here", "_law_places"] := own_mk X G a28 l28 c28 k28 (fun _ _ _ _ _ _ us hl => match us, hl with | [_, _, _], _ => rfl)
  have d29 : OwnD K mg "law" s_law ["_law_script"] := own_mk X G a29 l29 c29 k29 (fun _ _ _ _ _ _ us hl => match us, hl with | [_], _ => rfl)
  have d30 : OwnD K mg "check_converter" s_check_converter ["converter"] := own_mk X G a30 l30 c30 k30 (fun _ _ _ _ _ _ us hl => match us, hl with | [_], _ => rfl)
  have d31 : OwnD K mg "piece" s_piece ["converter", "text", "begin", "end"] := own_mk X G a31 l31 c31 k31 (fun _ _ _ _ _ _ us hl => match us, hl with | [_, _, _, _], _ => rfl)
  have d32 : OwnD K mg "is_integer" s_iinteger ["value"] := own_mk X G a32 l32 c32 k32 (fun _ _ _ _ _ _ us hl => match us, hl with | [_], _ => rfl)
  have d33 : OwnD K mg "is_count" s_icount ["value"] := own_mk X G a33 l33 c33 k33 (fun _ _ _ _ _ _ us hl => match us, hl with | [_], _ => rfl)
  have d34 : OwnStar K mg "pieces" s_pieces := ⟨f34, oc34, od34, kV34, dc34, pm34, an34, cd34, ct34, sl34, PySem.W.mg_of X G a34, k34, l34, c34⟩
  have F35 := fun_mk (st := s_cost) l35 c35 k35
  have d35 : OwnK K mg "cost" s_cost ["converter", "text", "at"] ["at", "text", "converter"] := ⟨f35, _, PySem.W.mg_of X G a35, F35, F35.binds (fun _ _ _ _ _ _ us hl => match us, hl with | [_, _, _], _ => rfl), fun s ws hl => match ws, hl with | [_, _, _], _ => .of_eq rfl⟩
  unfold chk at c
  simp only [Bool.and_eq_true, List.all_eq_true, decide_eq_true_eq] at c
  obtain ⟨⟨cT, cN⟩, c1, c3, c4, c6, c7, e60, e61, e62, e63, e64, cC⟩ := c
  have T : Txt K mg := ⟨fun x hx => PySem.W.mg_none_of X G (c1 x hx), ⟨_, PySem.W.mg_of X G G0⟩, ⟨_, PySem.W.mg_of X G G1⟩, ⟨_, PySem.W.mg_of X G G2⟩, ⟨_, PySem.W.mg_of X G G3⟩, d0, d1, d2, d3, d4, d5, d6, d7, d8, d9, d10, d11, d12, d13, d14, d15, d16, d17, d18, d19, d20, d21, d22, d23, d24, d25, d26, d27, d28, d29⟩
  have mC := PySem.W.mg_of X G A
  have eC : gC mg = C := adr_of mC
  rw [A] at cC
  replace cC : (ownB K ["start", "states", "letters", "steps", "tails"] C && clsB K C) = true := cC
  rw [Bool.and_eq_true] at cC
  obtain ⟨cC, cD⟩ := cC
  unfold clsB at cD
  simp only [Bool.and_eq_true, decide_eq_true_eq] at cD
  obtain ⟨h0, h1, h2, h3, h4, h5, h6, h7, h8, h9, h10⟩ := cD
  obtain ⟨o1, o2, o3, o4⟩ := own_of cC
  have nA : ∀ x ∈ ["start", "states", "letters", "steps", "tails"], NoAttr K (gC mg) x := fun x hx => by
    rw [eC]
    simp only [List.mem_cons, List.not_mem_nil, or_false] at hx
    rcases hx with rfl | rfl | rfl | rfl | rfl <;> exact o2 _ (by decide)
  have TC : TxC K mg := by
    refine ⟨T, by rw [eC]; exact mC, by rw [eC]; exact o1, fun x hx => nA x hx, ?_, ?_, ?_⟩
    all_goals rw [eC]
    · exact ⟨_, ⟨N0, ⟨_, rfl⟩, O0, by decide⟩⟩
    · exact ⟨_, ⟨N1, ⟨_, rfl⟩, O1, by decide⟩⟩
    · exact ⟨f40, _, ⟨o3, I40, J40, o4⟩, mdef (x := "__init__") (q := "Converter.__init__") (st := s_init) l40 c40 k40,
        (mdef (x := "__init__") (q := "Converter.__init__") (st := s_init) l40 c40 k40).bindsN fun _ _ _ _ _ _ us hl => match us, hl with | [_, _, _, _], _ => rfl⟩
  have TM : TxM K mg := by
    refine ⟨TC, by rw [eC]; exact ⟨f41, _, ⟨I41, J41, Q41⟩, mdef (x := "__call__") (q := "Converter.__call__") (st := s_call) l41 c41 k41, (mdef (x := "__call__") (q := "Converter.__call__") (st := s_call) l41 c41 k41).bindsN fun _ _ _ _ _ _ us hl => match us, hl with | [_, _], _ => rfl, fun s u ws hl => match ws, hl with | [_], _ => .of_eq rfl⟩, by rw [eC]; exact h0, h1, h2, by rw [eC]; exact h3, by rw [eC]; exact h4, fun t ht => ?_⟩
    rw [eC]
    simp only [List.mem_cons, List.not_mem_nil, or_false] at ht
    rcases ht with rfl | rfl | rfl | rfl | rfl | rfl
    · exact h5
    · exact h6
    · exact h7
    · exact h8
    · exact h9
    · exact h10
  have TA : TxA K mg := ⟨TM, d30, d31, d32, d33⟩
  have TS : TxS K mg := ⟨d34, d35⟩
  have TH : TxH K mg := by
    refine ⟨T, ?_, fun x hx => (ex_of X G (c3 x hx)).1, fun x hx => (ex_of X G (c3 x hx)).2.1, fun x hx => (ex_of X G (c3 x hx)).2.2, fun x hx y hy => kit_of2 X G (c4 x hx y hy), fun x hx => exm_of2 X G (c6 x hx)⟩
    split at c7
    · rename_i D hD
      rw [adr_of (PySem.W.mg_of X G hD)]
      exact PySem.W.mg_of X G hD
    · cases c7
  have E60 := errK_of X G e60
  have x60 : adr mg "BadConverter" = D60 := adr_of (PySem.W.mg_of X G A60)
  have E61 := errK_of X G e61
  have x61 : adr mg "BadWord" = D61 := adr_of (PySem.W.mg_of X G A61)
  have E62 := errK_of X G e62
  have x62 : adr mg "NoStep" = D62 := adr_of (PySem.W.mg_of X G A62)
  have E63 := errK_of X G e63
  have x63 : adr mg "NoTail" = D63 := adr_of (PySem.W.mg_of X G A63)
  have E64 := errK_of X G e64
  have x64 : adr mg "BadNumber" = D64 := adr_of (PySem.W.mg_of X G A64)
  have RZ : ∀ base : Heap, ErrR P w K mg base := fun base => by
    refine ⟨?_, ?_, ?_, ?_, ?_⟩
    · have F := fun_mk (st := s_iBadConverter) l60 c60 k60
      exact ⟨E60.mgx, f60, _, ⟨E60.T, by rw [x60]; exact I60, T60⟩, F.binds fun _ _ _ _ _ _ us hl => match us, hl with | [_, _], _ => rfl,
        ini1d E60 F ⟨rfl, rfl, rfl, by decide +kernel, rfl, by decide +kernel, by decide +kernel⟩ fun _ _ _ _ _ _ => pss_one (ps_ost (pv 0) (pv 1))⟩
    · have F := fun_mk (st := s_iBadWord) l61 c61 k61
      exact ⟨E61.mgx, f61, _, ⟨E61.T, by rw [x61]; exact I61, T61⟩, F.binds fun _ _ _ _ _ _ us hl => match us, hl with | [_, _], _ => rfl,
        ini1d E61 F ⟨rfl, rfl, rfl, by decide +kernel, rfl, by decide +kernel, by decide +kernel⟩ fun _ _ _ _ _ _ => pss_one (ps_ost (pv 0) (pv 1))⟩
    · have F := fun_mk (st := s_iNoStep) l62 c62 k62
      exact ⟨E62.mgx, f62, _, ⟨E62.T, by rw [x62]; exact I62, T62⟩, F.binds fun _ _ _ _ _ _ us hl => match us, hl with | [_, _, _], _ => rfl,
        ini2d E62 F ⟨rfl, rfl, rfl, by decide +kernel, rfl, by decide +kernel, by decide +kernel⟩ fun _ _ _ _ _ _ => pss_cons (ps_ost (pv 0) (pv 1)) (pss_one (ps_ost (pv 0) (pv 2)))⟩
    · have F := fun_mk (st := s_iNoTail) l63 c63 k63
      exact ⟨E63.mgx, f63, _, ⟨E63.T, by rw [x63]; exact I63, T63⟩, F.binds fun _ _ _ _ _ _ us hl => match us, hl with | [_, _], _ => rfl,
        ini1d E63 F ⟨rfl, rfl, rfl, by decide +kernel, rfl, by decide +kernel, by decide +kernel⟩ fun _ _ _ _ _ _ => pss_one (ps_ost (pv 0) (pv 1))⟩
    · have F := fun_mk (st := s_iBadNumber) l64 c64 k64
      exact ⟨E64.mgx, f64, _, ⟨E64.T, by rw [x64]; exact I64, T64⟩, F.binds fun _ _ _ _ _ _ us hl => match us, hl with | [_, _], _ => rfl,
        ini1d E64 F ⟨rfl, rfl, rfl, by decide +kernel, rfl, by decide +kernel, by decide +kernel⟩ fun _ _ _ _ _ _ => pss_one (ps_ost (pv 0) (pv 1))⟩
  obtain ⟨c_0, P_0, t_0⟩ := tbs "_law_cut" (by decide)
  have e_0 := tab_code X G a28 l28 t_0
  have F_0 := funC_mk (st := s_lcut) l28 c28 k28 e_0
  have G_0 := fun_mk (st := s_lcut) l28 c28 k28
  obtain ⟨c_1, P_1, t_1⟩ := tbs "law" (by decide)
  have e_1 := tab_code X G a29 l29 t_1
  have F_1 := funC_mk (st := s_law) l29 c29 k29 e_1
  have G_1 := fun_mk (st := s_law) l29 c29 k29
  have FL := fun_mk (st := s_law) l29 c29 k29
  obtain rfl : f29 = fa := Value.ref.inj (Option.some.inj ((PySem.W.mg_of X G a29).symm.trans hmg))
  have ne : P_0 ≠ P_1 := by
    split at cN
    · rename_i a b ea eb
      have q1 := tabAt_is X G t_0 ea
      have q2 := tabAt_is X G t_1 eb
      rw [q1, q2]
      intro z
      rw [z] at cN
      simp at cN
    · cases cN
  refine ⟨PySem.W.fnOf "law" "law" (defArgs s_law) (defBody s_law) (defScope s_law) .none kV29 dc29 pm29 an29 cd29 ct29, [(c_0, P_0), (c_1, P_1)], spLaw K P_0 P_1, fun p hp => ?_, fun p hp => ?_, fun s v => .of_eq rfl, fun H a ns hl hT hS => ?_, fun base KB GB TB => ?_⟩
  · rcases List.mem_cons.mp hp with rfl | hp
    · exact ⟨_, t_0⟩
    · obtain rfl := List.mem_singleton.mp hp
      exact ⟨_, t_1⟩
  · rcases List.mem_cons.mp hp with rfl | hp
    · obtain ⟨_, _, _, _, _, _, _, _, e⟩ := t_0
      exact tabless_none X cT e
    · obtain rfl := List.mem_singleton.mp hp
      obtain ⟨_, _, _, _, _, _, _, _, e⟩ := t_1
      exact tabless_none X cT e
  · refine ⟨a, ns, rfl, hS, hl, fun p hp => ?_, fun _ => rfl⟩
    rcases List.mem_cons.mp hp with rfl | hp
    · exact .nil (hT (c_0, P_0) List.mem_cons_self)
    · obtain rfl := List.mem_singleton.mp hp
      exact .nil (hT (c_1, P_1) (List.mem_cons_of_mem _ List.mem_cons_self))
  · have OC : OwnC K mg base "_law_cut" s_lcut ["_law_made_here", "_law_text_here", "_law_places"] P_0 := ⟨_, _, c_0, PySem.W.mg_of X G a28, F_0, G_0.binds fun _ _ _ _ _ _ us hl => match us, hl with | [_, _, _], _ => rfl, TB (c_0, P_0) List.mem_cons_self⟩
    exact law_g TA TS TH RZ ne OC F_1 (TB (c_1, P_1) (List.mem_cons_of_mem _ List.mem_cons_self))
end KC
open PySem PySem.W PyProof.Rows L2 in
set_option maxRecDepth 100000 in
set_option maxHeartbeats 0 in
theorem PySem.Challenge.cw_headgap_k62_texts_cut_in_pieces_holds : PySem.Challenge.rw_headgap_k62_texts_cut_in_pieces.Holds := by
  w_on; o_law; k_head; (case hw => w_witness2)
  k_fill
  refine L2.walk_ofTG (n := 63) (k := 10) (x := "_law_script") ["_law_cut", "law"]
    (l := PySem.Challenge.rw_headgap_k62_texts_cut_in_pieces) rfl (by decide) rfl ?R ⟨rfl, by decide, by decide⟩ (fun w h Y => PySem.W.km_in_of Y) ?F
  case R => kernel_rfl
  case F =>
    intro w mg fa h KX G hmg tbs
    refine' KC.fin_mk KX G hmg tbs ?c ?a0 ?l0 ?c0 ?k0 ?a1 ?l1 ?c1 ?k1 ?a2 ?l2 ?c2 ?k2 ?a3 ?l3 ?c3 ?k3 ?a4 ?l4 ?c4 ?k4 ?a5 ?l5 ?c5 ?k5 ?a6 ?l6 ?c6 ?k6 ?a7 ?l7 ?c7 ?k7 ?a8 ?l8 ?c8 ?k8 ?a9 ?l9 ?c9 ?k9 ?a10 ?l10 ?c10 ?k10 ?a11 ?l11 ?c11 ?k11 ?a12 ?l12 ?c12 ?k12 ?a13 ?l13 ?c13 ?k13 ?a14 ?l14 ?c14 ?k14 ?a15 ?l15 ?c15 ?k15 ?a16 ?l16 ?c16 ?k16 ?a17 ?l17 ?c17 ?k17 ?a18 ?l18 ?c18 ?k18 ?a19 ?l19 ?c19 ?k19 ?a20 ?l20 ?c20 ?k20 ?a21 ?l21 ?c21 ?k21 ?a22 ?l22 ?c22 ?k22 ?a23 ?l23 ?c23 ?k23 ?a24 ?l24 ?c24 ?k24 ?a25 ?l25 ?c25 ?k25 ?a26 ?l26 ?c26 ?k26 ?a27 ?l27 ?c27 ?k27 ?a28 ?l28 ?c28 ?k28 ?a29 ?l29 ?c29 ?k29 ?a30 ?l30 ?c30 ?k30 ?a31 ?l31 ?c31 ?k31 ?a32 ?l32 ?c32 ?k32 ?a33 ?l33 ?c33 ?k33 ?a34 ?l34 ?c34 ?k34 ?a35 ?l35 ?c35 ?k35 ?G0 ?G1 ?G2 ?G3 ?A ?N0 ?O0 ?N1 ?O1 ?I40 ?J40 ?l40 ?c40 ?k40 ?I41 ?J41 ?Q41 ?l41 ?c41 ?k41 ?A60 ?I60 ?T60 ?l60 ?c60 ?k60 ?A61 ?I61 ?T61 ?l61 ?c61 ?k61 ?A62 ?I62 ?T62 ?l62 ?c62 ?k62 ?A63 ?I63 ?T63 ?l63 ?c63 ?k63 ?A64 ?I64 ?T64 ?l64 ?c64 ?k64
    (case c => kernel_rfl)
    (case a0 => k_is)
    (case l0 => k_is)
    (case c0 => k_is)
    (case k0 => k_is)
    (case a1 => k_is)
    (case l1 => k_is)
    (case c1 => k_is)
    (case k1 => k_is)
    (case a2 => k_is)
    (case l2 => k_is)
    (case c2 => k_is)
    (case k2 => k_is)
    (case a3 => k_is)
    (case l3 => k_is)
    (case c3 => k_is)
    (case k3 => k_is)
    (case a4 => k_is)
    (case l4 => k_is)
    (case c4 => k_is)
    (case k4 => k_is)
    (case a5 => k_is)
    (case l5 => k_is)
    (case c5 => k_is)
    (case k5 => k_is)
    (case a6 => k_is)
    (case l6 => k_is)
    (case c6 => k_is)
    (case k6 => k_is)
    (case a7 => k_is)
    (case l7 => k_is)
    (case c7 => k_is)
    (case k7 => k_is)
    (case a8 => k_is)
    (case l8 => k_is)
    (case c8 => k_is)
    (case k8 => k_is)
    (case a9 => k_is)
    (case l9 => k_is)
    (case c9 => k_is)
    (case k9 => k_is)
    (case a10 => k_is)
    (case l10 => k_is)
    (case c10 => k_is)
    (case k10 => k_is)
    (case a11 => k_is)
    (case l11 => k_is)
    (case c11 => k_is)
    (case k11 => k_is)
    (case a12 => k_is)
    (case l12 => k_is)
    (case c12 => k_is)
    (case k12 => k_is)
    (case a13 => k_is)
    (case l13 => k_is)
    (case c13 => k_is)
    (case k13 => k_is)
    (case a14 => k_is)
    (case l14 => k_is)
    (case c14 => k_is)
    (case k14 => k_is)
    (case a15 => k_is)
    (case l15 => k_is)
    (case c15 => k_is)
    (case k15 => k_is)
    (case a16 => k_is)
    (case l16 => k_is)
    (case c16 => k_is)
    (case k16 => k_is)
    (case a17 => k_is)
    (case l17 => k_is)
    (case c17 => k_is)
    (case k17 => k_is)
    (case a18 => k_is)
    (case l18 => k_is)
    (case c18 => k_is)
    (case k18 => k_is)
    (case a19 => k_is)
    (case l19 => k_is)
    (case c19 => k_is)
    (case k19 => k_is)
    (case a20 => k_is)
    (case l20 => k_is)
    (case c20 => k_is)
    (case k20 => k_is)
    (case a21 => k_is)
    (case l21 => k_is)
    (case c21 => k_is)
    (case k21 => k_is)
    (case a22 => k_is)
    (case l22 => k_is)
    (case c22 => k_is)
    (case k22 => k_is)
    (case a23 => k_is)
    (case l23 => k_is)
    (case c23 => k_is)
    (case k23 => k_is)
    (case a24 => k_is)
    (case l24 => k_is)
    (case c24 => k_is)
    (case k24 => k_is)
    (case a25 => k_is)
    (case l25 => k_is)
    (case c25 => k_is)
    (case k25 => k_is)
    (case a26 => k_is)
    (case l26 => k_is)
    (case c26 => k_is)
    (case k26 => k_is)
    (case a27 => k_is)
    (case l27 => k_is)
    (case c27 => k_is)
    (case k27 => k_is)
    (case a28 => k_is)
    (case l28 => k_is)
    (case c28 => k_is)
    (case k28 => k_is)
    (case a29 => k_is)
    (case l29 => k_is)
    (case c29 => k_is)
    (case k29 => k_is)
    (case a30 => k_is)
    (case l30 => k_is)
    (case c30 => k_is)
    (case k30 => k_is)
    (case a31 => k_is)
    (case l31 => k_is)
    (case c31 => k_is)
    (case k31 => k_is)
    (case a32 => k_is)
    (case l32 => k_is)
    (case c32 => k_is)
    (case k32 => k_is)
    (case a33 => k_is)
    (case l33 => k_is)
    (case c33 => k_is)
    (case k33 => k_is)
    (case a34 => k_is)
    (case l34 => k_is)
    (case c34 => k_is)
    (case k34 => k_is)
    (case a35 => k_is)
    (case l35 => k_is)
    (case c35 => k_is)
    (case k35 => k_is)
    (case G0 => k_is)
    (case G1 => k_is)
    (case G2 => k_is)
    (case G3 => k_is)
    (case A => k_is)
    (case N0 => k_is)
    (case O0 => k_is)
    (case N1 => k_is)
    (case O1 => k_is)
    (case I40 => k_is)
    (case J40 => k_is)
    (case l40 => k_is)
    (case c40 => k_is)
    (case k40 => k_is)
    (case I41 => k_is)
    (case J41 => k_is)
    (case Q41 => k_is)
    (case l41 => k_is)
    (case c41 => k_is)
    (case k41 => k_is)
    (case A60 => k_is)
    (case I60 => k_is)
    (case T60 => k_is)
    (case l60 => k_is)
    (case c60 => k_is)
    (case k60 => k_is)
    (case A61 => k_is)
    (case I61 => k_is)
    (case T61 => k_is)
    (case l61 => k_is)
    (case c61 => k_is)
    (case k61 => k_is)
    (case A62 => k_is)
    (case I62 => k_is)
    (case T62 => k_is)
    (case l62 => k_is)
    (case c62 => k_is)
    (case k62 => k_is)
    (case A63 => k_is)
    (case I63 => k_is)
    (case T63 => k_is)
    (case l63 => k_is)
    (case c63 => k_is)
    (case k63 => k_is)
    (case A64 => k_is)
    (case I64 => k_is)
    (case T64 => k_is)
    (case l64 => k_is)
    (case c64 => k_is)
    (case k64 => k_is)
#print axioms PySem.Challenge.cw_headgap_k62_texts_cut_in_pieces_holds
