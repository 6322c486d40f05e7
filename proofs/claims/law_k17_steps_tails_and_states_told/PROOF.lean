import PyProof.Rows.All
import Wide.All
import OpenK.AllK
import Wide.FinOn
import HandS.ExcInit
import HandS.Words
import HandS.List
import KE.KExcIs
import PyProof.ReprRoads
import HandS.Ends
import HandS.ExcValue
import HandS.IsInst
import HandS.Property
import HandS.ClsMeth
import HandS.Gcd
import HandS.ForMost
import KE.DataMinMax
import HandS.SortKw
import HandS.Defaults
import KE.KOpsOwn
import PyProof.InstNe
import HandS.Wide
import HandS.OwnEq
import HandS.MakeKwOnly
import PySem.Challenge.RW_headgap_k17_steps_tails_and_states_told
import HandS.Walk
import HandS.Iter
import HandS.Text
import PyProof.StrBlock
import HandS.StrMore
import HandS.RaiseMore
import HandS.Small
import HandS.DictComp
import PyProof.Draws
import PyProof.EnumMake
import HandS.TryOnly
import HandS.ExcField
import HandS.Lambda
import HandS.WordsExc
import HandS.MakeKw
import PyProof.CallFns
import KE.KDictDisplayH
import HandS.EndTab
import OpenK.KMeth
import HandS.DeepEq
import KE.KEqNest
import HandS.Star
import OpenK.KOps
import KE.GoesMore
import PyProof.EqKinds
import PyProof.ListStr
import HandS.TupAny
import KE.KCallOwn
import HandS.Replace
import HandS.ReplaceLit
import HandS.IterVal
import KE.KOwnIter
import PyProof.TupleIter
import PyProof.WalksMore
import PyProof.StrLawsRepr
set_option Elab.async false
set_option linter.all false
set_option maxRecDepth 100000
set_option maxHeartbeats 4000000
namespace PySem
end PySem
namespace L2
open PySem PySem.Spec PyProof.Rows
/-- the class's facts -/
structure XMk (K : PySem.W.Frag) (C fI : Addr) : Prop where
  T : OexC K C
  ini : PySem.W.findIn K (.ref C) "__init__" = some (some (.ref fI))
  ty : PySem.W.typeIn K (.ref fI) = some (.type "function")
end L2
namespace L2
open PySem PySem.Spec PyProof.Rows
/-- what is asked of an own exception class, so that its objects are read and asked as values -/
structure XCl (K : PySem.W.Frag) (C : Addr) : Prop where
  ga : PySem.W.findIn K (.ref C) "__getattribute__" = some (some (.builtin "BaseException.__getattribute__"))
  gg : PySem.W.findIn K (.ref C) "__getattr__" = some none
  ex : PySem.W.subIn K (.ref C) (.type "BaseException") = some true
  hd : PySem.W.hasDictIn K C = true
  ci : (PySem.W.clsIn K C).isSome = true
  ca : PySem.W.findIn K (.ref C) "__class__" = some (some (.builtin "object.__class__"))
  cn : PySem.W.specialIn K (.builtin "object.__class__") "__get__" = some (some (.builtin "getset_descriptor.__get__"))
  ct : PySem.W.takesIn K (.builtin "object.__class__") = some true
  co : PySem.W.mroIn K C (.type "object") = some true
end L2
namespace L2
open PySem PySem.Spec PyProof.Rows
/-- as FnOk, for callers that have no repr under way -/
structure FnG (P : Program) (w : World) (K : PySem.W.Frag) (mg : Str → Option Value) (base : Heap) (CX : CXT)
    (k : Nat) (f : Addr) (fd : FuncData) (ps : List Str) (sp : Sp) : Prop where
  len : ∀ vs H Q E, sp vs H Q E → vs.length = ps.length
  run : ∀ (A : Around) (outer : List Env) (s : Shared) (H : Hp) (args : Args) (us : List Value) (vs : List V)
    (Q : VK) (E : XK), A.guards = some [] → Room k A → Env0 P w K mg base A outer s H →
    BindsTo s fd args (ps.zip us) → Vals vs us → sp vs H Q E →
    codeAny (model P w) A (.call (.ref f) args) (CR CX outer P w H s Q E) s
section
variable {P : Program} {w : World} {K : PySem.W.Frag} {mg : Str → Option Value} {base : Heap} {CX : CXT} {k : Nat}
  {f : Addr} {fd : FuncData} {ps : List Str} {sp : Sp}
theorem FnOk.g (F : FnOk P w K mg base CX k f fd ps sp) : FnG P w K mg base CX k f fd ps sp :=
  ⟨F.len, fun A outer s H args us vs Q E _ hr he hb hv hs => F.run A outer s H args us vs Q E hr he hb hv hs⟩
theorem FnG.mono {j : Nat} (F : FnG P w K mg base CX j f fd ps sp) (h : j ≤ k) : FnG P w K mg base CX k f fd ps sp :=
  ⟨F.len, fun A outer s H args us vs Q E hg hr => F.run A outer s H args us vs Q E hg (hr.mono h)⟩
/-- the rule for a def, guards known -/
theorem Fun.okG {x qual : Str} {st : Stmt} {N : List Str} (F : Fun K x qual st f fd) (S : FnScope N ps (defScope st))
    (len : ∀ vs H Q E, sp vs H Q E → vs.length = ps.length)
    (hbody : ∀ (cdv : Value) (A : Around) (outer : List Env) (s : Shared) (H : Hp) (vs : List V) (Q : VK) (E : XK),
      (A.deeper (envOfC qual (defScope st) s.heap.objs.size f cdv)).guards = some [] →
      Room k (A.deeper (envOfC qual (defScope st) s.heap.objs.size f cdv)) → sp vs H Q E →
      ∃ t, PSs (cxOf CX0 P w K mg base N qual (defScope st) f cdv A outer s H E).nox (defBody st) t ∧
        t { nx := fun _ H' => Q .non H', rt := Q } (start N vs) H) :
    FnG P w K mg base CX0 (k + 1) f fd ps sp := by
  obtain ⟨oc, od, kV, doc, pm, an, cdv, ct, osl, rfl, lk, hcd⟩ := F.ex
  refine ⟨len, fun A outer s H args us vs Q E hg hr e0 hb r hsp => ?_⟩
  have hl := len _ _ _ _ hsp
  have KX : K.In s.heap := e0.mod.kin.keeps fun b o e => (e0.bs b o e).1
  have lim : s.heap.NoLimit := e0.mod.nolimit.keeps fun b o e => (e0.bs b o e).1
  have kinds : ∀ y ∈ ps.zip us, (defScope st).names.lookup y.1 = some .local ∨
      ((defScope st).names.lookup y.1 = some .cell ∧
        ((cellsFrom (s.heap.objs.size + 1) (defScope st).names []).lookup y.1).isSome = true) := by
    rintro ⟨n, v⟩ hy
    rcases S.par n (List.of_mem_zip hy).1 with q | q
    · exact .inl q
    · exact .inr ⟨q, PySem.W.cellsFrom_some _ _ _ (.inl q)⟩
  refine codeAny_call_function hr.depth (KX _ _ lk) rfl S.co S.gen rfl (PySem.W.codeRec_of KX hcd) (hb _ _ _ _ ?_)
  refine wpAny_newFunctionEnv_cells S.kind kinds fun env he s1 x => ?_
  subst he
  refine ⟨lim.keeps x.toInCall.keep, codeAny_func ?_⟩
  have hg' : (A.deeper (envOfC qual (defScope st) s.heap.objs.size f cdv)).guards = some [] := by
    first
      | exact hg
      | simpa [Around.deeper] using hg
  obtain ⟨t, ht0, hq⟩ := hbody cdv A outer s H vs Q E hg' (hr.deeper _) hsp
  have ht := ht0.nox
  have I : Inv (cxOf CX0 P w K mg base N qual (defScope st) f cdv A outer s H E) [] (start N vs) H s1 :=
    inv_start S hr.hd e0 hl r x
  refine wpAny_mono (ht.run [] s1 (start N vs) H _ I hq) (fun fl s' hs => ?_) fun e s' hs => hs
  have fin : ∀ {σ' : St} {H' : Hp} {v : V} {u : Value},
      Inv (cxOf CX0 P w K mg base N qual (defScope st) f cdv A outer s H E) [] σ' H' s' → RelV v u → Q v H' →
      CE outer P w H s Q u s' := fun J rv q => ⟨_, _, J.os, J.bare, J.base, J.hok, rv, q⟩
  cases fl with
  | ret u =>
    obtain ⟨v, σ', H', J, rv, q⟩ := hs
    exact fin J rv q
  | next =>
    obtain ⟨σ', H', J, q⟩ := hs
    exact fin (v := V.non) (u := Value.none) J rfl q
  | brk =>
    obtain ⟨_, _, _, q⟩ := hs
    exact False.elim q
  | cont =>
    obtain ⟨_, _, _, q⟩ := hs
    exact False.elim q
end
section
variable {X : Cx} {CX : CXT} {k : Nat} {f : Addr} {fd : FuncData} {ps : List Str} {sp : Sp} {dvs : List V}
  {ds : List Value} {E : XK} {x : Str} {p pos : Pos} {e : Expr} {es : List Expr} {t : TA}
theorem run_fnG {pins : List (Addr × Obj)} {σ : St} {H : Hp} {s : Shared} {Q : VK} {us : List Value} {vs : List V}
    (F : FnG X.prog X.w X.K X.mg X.base CX k f fd ps sp) (hA : X.A.guards = some []) (hr : Room k X.A)
    (hb : Binds X.K fd ps ds) (hd : Vals dvs ds) (hx : Passes CX X E) (I : Inv X pins σ H s) (r : Vals vs us)
    (h : sp (vs ++ dvs) H Q E) : wpAny (model X.prog X.w) X.A (call (.ref f) us) (EP X pins σ Q) X.xe s := by
  have r2 : Vals (vs ++ dvs) (us ++ ds) := r.append hd
  have hl : (us ++ ds).length = ps.length := by
    rw [← r2.length]
    exact F.len _ _ _ _ h
  refine wpAny_call (codeAny_mono (F.run X.A X.stack s H ⟨us, []⟩ (us ++ ds) (vs ++ dvs) Q E hA hr I.env0
    (hb s us I.kIn hl) r2 h) fun rr s' z => ?_)
  cases rr with
  | error e => exact hx pins σ H s e s' I z
  | ok fl =>
    cases fl with
    | ret u => exact I.after z
    | next => exact False.elim z
    | brk => exact False.elim z
    | cont => exact False.elim z
theorem pe_callG (F : FnG X.prog X.w X.K X.mg X.base CX k f fd ps sp) (hA : X.A.guards = some []) (hr : Room k X.A)
    (hg : Gl X x) (hm : X.mg x = some (.ref f)) (hk : PySem.W.keepIn X.K (.ref f) = true) (hb : Binds X.K fd ps ds)
    (hd : Vals dvs ds) (hx : Passes CX X E) (ha : PA X (e :: es) t)
    (hdb : (x == ("__debug__" : Str)) = false := by decide)
    (he : starEach (e :: es) X.env = (false, eval e X.env) :: starEach es X.env := by rfl)
    (hpl : (backTo pos (starEach es X.env)).any (·.1) = false := by rfl) :
    PE X (.Call (.Name x p) (e :: es) [] pos) (tCall sp dvs E t) := by
  refine ⟨fun pins s σ H Q I h => ?_⟩
  refine wpAny_Call_Name_kw (ld_glob I hg hm ?_ hdb)
  refine PySem.W.callWith_K (h₀ := X.base) I.ok.mod.kin hk
    (thn (ha.run pos pins s σ H _ I h) fun us s1 ⟨vs, H1, I1, r, q⟩ => ⟨I1.kIn, ?_⟩) he hpl
  exact run_fnG F hA hr hb hd hx I1 r q
end
end L2
namespace L2
open PySem PySem.Spec PyProof.Rows
/-- the address of what a module's name holds -/
def adr (mg : Str → Option Value) (x : Str) : Addr := match mg x with
  | some (.ref a) => a
  | _ => 0
theorem adr_of {mg : Str → Option Value} {x : Str} {a : Addr} (h : mg x = some (.ref a)) : adr mg x = a := by
  unfold adr
  rw [h]
/-- a def of the top, by its name -/
def OwnD (K : PySem.W.Frag) (mg : Str → Option Value) (x : Str) (st : Stmt) (ps : List Str) : Prop :=
  ∃ f fd, mg x = some (.ref f) ∧ Fun K x x st f fd ∧ Binds K fd ps []
/-- what a def of the top keeps -/
def Kp (P : Program) (w : World) (K : PySem.W.Frag) (mg : Str → Option Value) (base : Heap) (k : Nat) (x : Str)
    (ps : List Str) (sp : Sp) : Prop :=
  ∃ f fd, mg x = some (.ref f) ∧ PySem.W.keepIn K (.ref f) = true ∧ Binds K fd ps [] ∧
    FnG P w K mg base CX0 k f fd ps sp
section
variable {P : Program} {w : World} {K : PySem.W.Frag} {mg : Str → Option Value} {base : Heap}
theorem OwnD.ok {x : Str} {st : Stmt} {N ps : List Str} {k : Nat} {sp : Sp} (O : OwnD K mg x st ps)
    (S : FnScope N ps (defScope st)) (len : ∀ vs H Q E, sp vs H Q E → vs.length = ps.length)
    (hbody : ∀ (f : Addr) (cdv : Value) (A : Around) (outer : List Env) (s : Shared) (H : Hp) (vs : List V) (Q : VK)
      (E : XK), (A.deeper (envOfC x (defScope st) s.heap.objs.size f cdv)).guards = some [] →
      Room k (A.deeper (envOfC x (defScope st) s.heap.objs.size f cdv)) → sp vs H Q E →
      ∃ t, PSs (cxOf CX0 P w K mg base N x (defScope st) f cdv A outer s H E).nox (defBody st) t ∧
        t { nx := fun _ H' => Q .non H', rt := Q } (start N vs) H) :
    Kp P w K mg base (k + 1) x ps sp := by
  obtain ⟨f, fd, hm, F, b⟩ := O
  exact ⟨f, fd, hm, F.kp, b, F.okG S len fun cdv A outer s H vs Q E hg hr h => hbody f cdv A outer s H vs Q E hg hr h⟩
theorem own_mk {h : Heap} {x : Str} {st : Stmt} {ps : List Str} {f : Addr} {od an : Option Addr}
    {sl : Array (Option Value)} {oc kV dc pm cd ct : Value} (X : K.In h) (G : h.Ns mainGlobals mg)
    (a : PySem.W.nsIn K mainGlobals x = some (some (.ref f)))
    (l : K.lookup f = some ⟨oc, od, .func (PySem.W.fnOf x x (defArgs st) (defBody st) (defScope st) .none kV dc pm an cd ct), sl⟩)
    (c : PySem.W.codeIn K cd x = true) (k : PySem.W.keepIn K (.ref f) = true)
    (b : ∀ (kV doc pm : Value) (an : Option Addr) (cdv ct : Value) (us : List Value), us.length = ps.length →
      bindArgs (PySem.W.fnOf x x (defArgs st) (defBody st) (defScope st) .none kV doc pm an cdv ct) ⟨us, []⟩ =
        pure (ps.zip us)) : OwnD K mg x st ps :=
  have F := fun_mk (st := st) l c k
  ⟨f, _, PySem.W.mg_of X G a, F, F.binds b⟩
end
section
variable {X : Cx} {k j : Nat} {ps : List Str} {sp : Sp} {x : Str} {p pos : Pos} {e : Expr} {es : List Expr} {t : TA}
/-- f(e, ..) by what f keeps -/
theorem pe_kp (F : Kp X.prog X.w X.K X.mg X.base k x ps sp) (hA : X.A.guards = some []) (hr : Room j X.A)
    (hg : Gl X x) (ha : PA X (e :: es) t) (hj : k ≤ j := by decide)
    (hdb : (x == ("__debug__" : Str)) = false := by decide)
    (he : starEach (e :: es) X.env = (false, eval e X.env) :: starEach es X.env := by rfl)
    (hpl : (backTo pos (starEach es X.env)).any (·.1) = false := by rfl)
    (hx : Passes CX0 X E0 := by exact pass0) :
    PE X (.Call (.Name x p) (e :: es) [] pos) (tCall sp [] E0 t) := by
  obtain ⟨f, fd, hm, hk, hb, G⟩ := F
  exact pe_callG G hA (hr.mono hj) hg hm hk hb .nil hx ha hdb he hpl
end
end L2
namespace L2
open PySem PySem.Spec PyProof.Rows
section
variable {X : Cx}
theorem fmod_bd {i j : Int} (h : 0 < j) : 0 ≤ i.fmod j ∧ i.fmod j < j := by
  rw [Int.fmod_eq_emod_of_nonneg _ (by omega)]
  exact ⟨Int.emod_nonneg _ (by omega), Int.emod_lt_of_pos _ h⟩
/-- a % b, some number below b -/
def rModW : R2 := fun x y H Q => ∃ i j, x = .int i ∧ y = .int j ∧ 0 < j ∧ ∀ r, 0 ≤ r → r < j → Q (.int r) H
theorem op_modW : OpR X (binaryOp .Mod) rModW := by
  intro pins s σ H x y v u Q I rx ry h
  obtain ⟨i, j, ex, ey, hj, h⟩ := h
  exact op_modN pins s σ H x y v u Q I rx ry ⟨i, j, ex, ey, by omega, h _ (fmod_bd hj).1 (fmod_bd hj).2⟩
/-- a // b, the quotient with its rest -/
def rDivW : R2 := fun x y H Q => ∃ i j, x = .int i ∧ y = .int j ∧ 0 < j ∧ j < 1073741824 ∧
  ∀ q r, i = j * q + r → 0 ≤ r → r < j → Q (.int q) H
theorem op_divW : OpR X (binaryOp .FloorDiv) rDivW := by
  intro pins s σ H x y v u Q I rx ry h
  obtain ⟨i, j, ex, ey, hj, h2, h⟩ := h
  have b := fmod_bd (i := i) hj
  refine op_fdivN pins s σ H x y v u Q I rx ry ⟨i, j, ex, ey, ⟨by omega, by omega⟩, h _ _ ?_ b.1 b.2⟩
  have e := Int.fmod_add_mul_fdiv i j
  omega
/-- a ** b, some number -/
def rPowW : R2 := fun x y H Q => ∃ i j, x = .int i ∧ y = .int j ∧ 0 ≤ j ∧ j ≤ 1000000 ∧ i.natAbs < 2 ^ 64 ∧
  ∀ z, Q (.int z) H
theorem op_powW : OpR X (binaryOp .Pow) rPowW := by
  intro pins s σ H x y v u Q I rx ry h
  obtain ⟨i, j, ex, ey, h1, h2, h3, h⟩ := h
  exact op_pow pins s σ H x y v u Q I rx ry ⟨i, j, ex, ey, ⟨h1, h2, h3⟩, h _⟩
/-- a * b, as a letter with its equation -/
def rMulW : R2 := fun x y H Q => ∃ i j, x = .int i ∧ y = .int j ∧ ((-(2 ^ 64) < i ∧ i < 2 ^ 64) ∨ (-(2 ^ 64) < j ∧ j < 2 ^ 64)) ∧
  ∀ z, z = i * j → Q (.int z) H
theorem op_mulW' : OpR X (binaryOp .Mult) rMulW := by
  intro pins s σ H x y v u Q I rx ry h
  obtain ⟨i, j, ex, ey, h1, h⟩ := h
  exact op_mul pins s σ H x y v u Q I rx ry ⟨i, j, ex, ey, h1, h _ rfl⟩
/-- int(n), n an int -/
theorem call_intI : CallR X (.type "int") (fun xs H Q => ∃ i, xs = [.int i] ∧ Q (.int i) H) := by
  intro pins s σ H xs us Q I r h
  obtain ⟨i, e, h⟩ := h
  exact call_int1 pins s σ H xs us Q I r (.inl ⟨i, e, h⟩)
/-- int(b), b a bool: 0 or 1 -/
theorem call_intB : CallR X (.type "int") (fun xs H Q => ∃ b, xs = [.bl b] ∧ ∀ i, 0 ≤ i → i ≤ 1 → Q (.int i) H) := by
  intro pins s σ H xs us Q I r h
  obtain ⟨b, e, h⟩ := h
  refine call_int1 pins s σ H xs us Q I r (.inr ⟨b, e, h _ ?_ ?_⟩)
  · cases b <;> decide
  · cases b <;> decide
end
theorem upd_new {H : Hp} {p q : Addr} {o u : HO} (hn : H p = none) (h : H q = some o) : upd H p u q = some o :=
  (upd_ne (ne_of_none h hn)).trans h
theorem upd_oth {H : Hp} {p q : Addr} {o u : HO} (hn : q ≠ p) (h : H q = some o) : upd H p u q = some o :=
  (upd_ne hn).trans h
theorem Same.new {H : Hp} {p : Addr} {u : HO} (hn : H p = none) : Same H (upd H p u) := fun b o e => upd_new hn e
theorem at_map {ns : List Int} {r : Int} (h0 : 0 ≤ r) (h1 : r < (ns.length : Int)) :
    ∃ x, atI (ns.map V.int) r = some (.int x) := by
  have hl : r.toNat < ns.length := by omega
  refine ⟨ns[r.toNat], ?_⟩
  unfold atI ixN
  rw [List.length_map, if_pos h0, if_pos h1]
  simp [List.getElem?_eq_getElem hl]
theorem at_in {α : Type} {xs : List α} {r : Int} (h0 : 0 ≤ r) (h1 : r < (xs.length : Int)) :
    ∃ x, atI xs r = some x ∧ x ∈ xs := by
  have hl : r.toNat < xs.length := by omega
  refine ⟨xs[r.toNat], ?_, List.getElem_mem _⟩
  unfold atI ixN
  rw [if_pos h0, if_pos h1]
  simp [List.getElem?_eq_getElem hl]
/-- data of a list of ints -/
theorem dp_ints {K : PySem.W.Frag} {H : Hp} : ∀ ns : List Int, DpAll K H (ns.map V.int) (ns.map PyData.int)
  | [] => .nil
  | n :: ns => .cons (.int n) (dp_ints ns)
/-- a statement and what follows it, met at a word -/
def tMid (t u : TS) : TS := fun D σ H => ∃ W : St → Hp → Prop, t { D with nx := W } σ H ∧ ∀ σ1 H1, W σ1 H1 → u D σ1 H1
theorem pss_mid {X : Cx} {st : Stmt} {rest : List Stmt} {t u : TS} (a : PS X st t) (b : PSs X rest u) :
    PSs X (st :: rest) (tMid t u) := by
  constructor
  intro pins s σ H D I h
  obtain ⟨W, hw, hu⟩ := h
  refine wpAny_execs_cons (thn (a.run pins s σ H { D with nx := W } I hw) fun f s1 z => ?_)
  cases f with
  | next =>
    obtain ⟨σ1, H1, I1, z⟩ := z
    exact b.run pins s1 σ1 H1 D I1 (hu σ1 H1 z)
  | ret v => exact z
  | brk => exact z
  | cont => exact z
theorem len_lst {K : PySem.W.Frag} {H : Hp} {c : Addr} {xs : List V} (h : H c = some (.lst xs)) :
    LenV K (.ref c) H xs.length := .inl ⟨xs, SqL.of h, rfl⟩
end L2
namespace L2
open PySem PySem.Spec PyProof.Rows
theorem PE.imp {X : Cx} {e : Expr} {t t' : TE} (h : PE X e t) (k : ∀ σ H Q, t' σ H Q → t σ H Q) : PE X e t' :=
  ⟨fun pins s σ H Q I q => h.run pins s σ H Q I (k σ H Q q)⟩
/-- all but what stands at p is as it was -/
def But (p : Addr) (H H' : Hp) : Prop := ∀ b, b ≠ p → ∀ o, H b = some o → H' b = some o
theorem But.trans {p : Addr} {H H1 H2 : Hp} (a : But p H H1) (b : But p H1 H2) : But p H H2 :=
  fun c hc o e => b c hc o (a c hc o e)
theorem Same.but {p : Addr} {H H' : Hp} (h : Same H H') : But p H H' := fun b _ o e => h b o e
/-- an error object, its fields the last one first -/
def XV (H : Hp) (a C : Addr) (fs : List (Str × V)) : Prop :=
  (fs = [] ∧ H a = some (exo a C none)) ∨ ∃ dx, H a = some (exo a C (some dx)) ∧ H dx = some (exd dx fs)
theorem XV.same {H H' : Hp} {a C : Addr} {fs : List (Str × V)} (h : XV H a C fs) (s : Same H H') : XV H' a C fs := by
  rcases h with ⟨e, h⟩ | ⟨dx, h, g⟩
  · exact .inl ⟨e, s _ _ h⟩
  · exact .inr ⟨dx, s _ _ h, s _ _ g⟩
/-- an error class of the top, by its name -/
structure ErrK (K : PySem.W.Frag) (mg : Str → Option Value) (x : Str) (fs : List Str) : Prop where
  mgx : mg x = some (.ref (adr mg x))
  T : OexC K (adr mg x)
  X : XCl K (adr mg x)
  na : ∀ f ∈ fs, PySem.W.findIn K (.ref (adr mg x)) f = some none
end L2
namespace L2
open PySem PySem.Spec PyProof.Rows
def kd : Key → PyData
  | .inl i => .int i
  | .inr x => .str x
mutual
/-- what a value is as data; dicts by int and text keys -/
inductive Dq (K : PySem.W.Frag) (H : Hp) : V → PyData → Prop
  | non : Dq K H .non .none
  | bl (b : Bool) : Dq K H (.bl b) (.bool b)
  | int (i : Int) : Dq K H (.int i) (.int i)
  | str (x : Str) : Dq K H (.str x) (.str x)
  | lst {a : Addr} {xs : List V} {ds : List PyData} : SqL K H a xs → DqAll K H xs ds → Dq K H (.ref a) (.list ds)
  | tup {a : Addr} {xs : List V} {ds : List PyData} : SqT K H a xs → DqAll K H xs ds → Dq K H (.ref a) (.tuple ds)
  | dic {a : Addr} {kvs : List (Key × V)} {ds : List (PyData × PyData)} : H a = some (.dK kvs) → DqKv K H kvs ds →
      Dq K H (.ref a) (.dict ds)
inductive DqAll (K : PySem.W.Frag) (H : Hp) : List V → List PyData → Prop
  | nil : DqAll K H [] []
  | cons {v : V} {vs : List V} {d : PyData} {ds : List PyData} : Dq K H v d → DqAll K H vs ds →
      DqAll K H (v :: vs) (d :: ds)
inductive DqKv (K : PySem.W.Frag) (H : Hp) : List (Key × V) → List (PyData × PyData) → Prop
  | nil : DqKv K H [] []
  | cons {k : Key} {v : V} {vs : List (Key × V)} {d : PyData} {ds : List (PyData × PyData)} : Dq K H v d →
      DqKv K H vs ds → DqKv K H ((k, v) :: vs) ((kd k, d) :: ds)
end
section
variable {X : Cx} {pins : List (Addr × Obj)} {σ : St} {H : Hp} {s : Shared}
theorem rk_key {k : Key} {u : Value} (h : keyIs k u = true) (hs : (kd k).showable = true)
    (hz : (kd k).shown.length ≤ sizeLine) :
    Reads s.heap u (kd k) [] ∧ ∀ bs n, ReprK X.prog X.w bs s.heap n u (kd k).shown := by
  rcases keyIs_shape h with ⟨i, t, rfl, rfl⟩ | ⟨x, t, rfl, rfl⟩
  · refine ⟨Reads.int i t, fun bs n => ?_⟩
    simp only [kd, PyData.shown]
    exact .of_is (ReprIs.int t (by simpa [kd, PyData.showable] using hs)) _ _ _
  · refine ⟨Reads.str x t, fun bs n => ?_⟩
    simp only [kd, PyData.shown]
    exact .of_is (ReprIs.str x t (by simpa only [kd, PyData.shown] using hz)) _ _ _
theorem ram_app {h : Heap} {n m : Nat} {as bs : List Addr} (a : ReadAtMost h n as) (b : ReadAtMost h m bs) :
    ReadAtMost h (max n m) (as ++ bs) := by
  intro c hc
  rcases List.mem_append.mp hc with q | q
  · obtain ⟨d, xs, r, l⟩ := a c q
    exact ⟨d, xs, r, Nat.le_trans l (Nat.le_max_left _ _)⟩
  · obtain ⟨d, xs, r, l⟩ := b c q
    exact ⟨d, xs, r, Nat.le_trans l (Nat.le_max_right _ _)⟩
theorem ek_more {P : Program} {w : World} {h : Heap} {as bs : List Addr} {n m : Nat} (hs : ∀ b ∈ as, b ∈ bs) (hn : n ≤ m) :
    ∀ {es : List DictEntry} {ps : List Str}, ReprEntriesK P w as h n es ps → ReprEntriesK P w bs h m es ps
  | _, _, .nil => .nil
  | _, _, .cons a b c => .cons ((a.more hs).level_le hn) ((b.more hs).level_le hn) (ek_more hs hn c)
mutual
theorem Dq.rk (I : Inv X pins σ H s) : ∀ {v : V} {d : PyData}, Dq X.K H v d → ∀ u, RelV v u → d.showable = true →
    d.shown.length ≤ sizeLine → ∃ as bs, Reads s.heap u d as ∧ ReadAtMost s.heap d.depth bs ∧
      ReprK X.prog X.w bs s.heap d.depth u d.shown
  | _, _, .non, u, r, _, _ => by
    cases r
    exact ⟨_, [], Reads.none, fun _ h => (nomatch h), by simp only [PyData.shown]; exact .of_is ReprIs.none _ _ _⟩
  | _, _, .bl b, u, r, _, _ => by
    cases r
    exact ⟨_, [], Reads.bool b, fun _ h => (nomatch h), by simp only [PyData.shown]; exact .of_is (ReprIs.bool b) _ _ _⟩
  | _, _, .int i, u, r, hs, _ => by
    obtain ⟨t, rfl⟩ := r
    exact ⟨_, [], Reads.int i t, fun _ h => (nomatch h), by
      simp only [PyData.shown]
      exact .of_is (ReprIs.int t (by simpa [PyData.showable] using hs)) _ _ _⟩
  | _, _, .str x, u, r, _, hz => by
    obtain ⟨t, rfl⟩ := r
    exact ⟨_, [], Reads.str x t, fun _ h => (nomatch h), by
      simp only [PyData.shown]
      exact .of_is (ReprIs.str x t (by simpa only [PyData.shown] using hz)) _ _ _⟩
  | _, _, .lst (a := a) (ds := ds) hq ha, u, r, hs, hz => by
    cases r
    obtain ⟨its, rv, ⟨o, n, ho, hc, _, hd⟩, _⟩ := I.list hq
    have hz1 : (listText (PyData.shownAll ds)).length ≤ sizeLine := by simpa only [PyData.shown] using hz
    obtain ⟨as, bs, rd, hb, hk⟩ := DqAll.rk I ha its rv (by simpa [PyData.showable] using hs)
      fun t ht => Nat.le_trans (listText_mem_le ht) hz1
    have R : Reads s.heap (.ref a) (.list ds) _ := .list ho hc hd rd
    have nb : a ∉ bs := not_mem_of_deeper R (by simp only [PyData.depth]; omega) hb
    refine ⟨_, a :: bs, R, ReadAtMost.cons R (by simp only [PyData.depth]; omega) hb, ?_⟩
    simp only [PyData.depth, PyData.shown]
    cases its with
    | nil =>
      cases rd
      simp only [PyData.shownAll, listText_nil]
      exact ReprK.listEmpty ho hc hd
    | cons y l => exact ReprK.list ho hc hd nb (by simpa using hk.length_eq) fun i z e => hk.item i z (by simpa using e)
  | _, _, .tup (a := a) (ds := ds) hq ha, u, r, hs, hz => by
    cases r
    obtain ⟨its, rv, ⟨o, ho, hc, n, hd⟩, _⟩ := I.tuple hq
    have hz1 : (tupleText (PyData.shownAll ds)).length ≤ sizeLine := by simpa only [PyData.shown] using hz
    obtain ⟨as, bs, rd, hb, hk⟩ := DqAll.rk I ha its rv (by simpa [PyData.showable] using hs)
      fun t ht => Nat.le_trans (tupleText_mem_le ht) hz1
    have R : Reads s.heap (.ref a) (.tuple ds) _ := .tuple ho hc hd rd
    have nb : a ∉ bs := not_mem_of_deeper R (by simp only [PyData.depth]; omega) hb
    refine ⟨_, a :: bs, R, ReadAtMost.cons R (by simp only [PyData.depth]; omega) hb, ?_⟩
    simp only [PyData.depth, PyData.shown]
    exact ReprK.tuple ho hc hd nb hk
  | _, _, .dic (a := a) (kvs := kvs) (ds := ds) hq ha, u, r, hs, hz => by
    cases r
    obtain ⟨_, hsys, vs, rv, o, es, ep, ho, hc, hd, _, hp, _⟩ :=
      (show ObjOk X.prog X.w H s.heap a (.dK kvs) from I.hok a _ hq)
    have hz1 : (dictText (PyData.shownKv ds)).length ≤ sizeLine := by simpa only [PyData.shown] using hz
    obtain ⟨as, cs, bs, r1, r2, hb, hk⟩ := DqKv.rk I ha es.toList vs rv hp (by simpa [PyData.showable] using hs)
      fun t ht => Nat.le_trans (dictText_mem_le ht) hz1
    have R : Reads s.heap (.ref a) (.dict ds) _ := .dict ho hc.1 hd r1 r2
    have nb : a ∉ bs := not_mem_of_deeper R (by simp only [PyData.depth]; omega) hb
    refine ⟨_, a :: bs, R, ReadAtMost.cons R (by simp only [PyData.depth]; omega) hb, ?_⟩
    simp only [PyData.depth, PyData.shown]
    exact ReprK.dict ho hc.1 hd hsys nb hk
theorem DqAll.rk (I : Inv X pins σ H s) : ∀ {vs : List V} {ds : List PyData}, DqAll X.K H vs ds → ∀ us, Vals vs us →
    PyData.showableAll ds = true → (∀ t ∈ PyData.shownAll ds, t.length ≤ sizeLine) →
    ∃ as bs, ReadsAll s.heap us ds as ∧ ReadAtMost s.heap (PyData.depthAll ds) bs ∧
      ReprAllK X.prog X.w bs s.heap (PyData.depthAll ds) us (PyData.shownAll ds)
  | _, _, .nil, us, r, _, _ => by
    cases r
    exact ⟨_, [], .nil, fun _ h => (nomatch h), by simp only [PyData.shownAll]; exact .nil⟩
  | _, _, .cons (d := d) (ds := ds) h hl, us, r, hs, hz => by
    cases r with
    | cons r1 r2 =>
      have h2 : d.showable = true ∧ PyData.showableAll ds = true := by simpa [PyData.showableAll] using hs
      obtain ⟨a1, b1, q1, m1, k1⟩ := Dq.rk I h _ r1 h2.1 (hz _ (by simp only [PyData.shownAll]; exact List.mem_cons_self))
      obtain ⟨a2, b2, q2, m2, k2⟩ := DqAll.rk I hl _ r2 h2.2
        fun t ht => hz t (by simp only [PyData.shownAll]; exact List.mem_cons_of_mem _ ht)
      refine ⟨_, b1 ++ b2, .cons q1 q2, by simp only [PyData.depthAll]; exact ram_app m1 m2, ?_⟩
      simp only [PyData.depthAll, PyData.shownAll]
      exact .cons ((k1.more fun b hb => List.mem_append_left _ hb).level_le (Nat.le_max_left _ _))
        (k2.more_le (fun b hb => List.mem_append_right _ hb) (Nat.le_max_right _ _))
theorem DqKv.rk (I : Inv X pins σ H s) : ∀ {vs : List (Key × V)} {ds : List (PyData × PyData)}, DqKv X.K H vs ds →
    ∀ (es : List DictEntry) (us : List (Key × Value)), KV vs us → Pairs (mixKind X.prog X.w) es us →
    PyData.showableKv ds = true → (∀ t ∈ PyData.shownKv ds, t.length ≤ sizeLine) →
    ∃ as cs bs, ReadsAll s.heap (es.map (·.key)) (ds.map (·.1)) as ∧ ReadsAll s.heap (es.map (·.val)) (ds.map (·.2)) cs ∧
      ReadAtMost s.heap (PyData.depthKv ds) bs ∧
      ReprEntriesK X.prog X.w bs s.heap (PyData.depthKv ds) es (PyData.shownKv ds)
  | _, _, .nil, es, us, r, p, _, _ => by
    cases r
    cases p
    exact ⟨_, _, [], .nil, .nil, fun _ h => (nomatch h), by simp only [PyData.shownKv]; exact .nil⟩
  | _, _, .cons (k := k) (d := d) (ds := ds) h hl, es, us, r, p, hs, hz => by
    cases r with
    | cons r1 r2 =>
      cases p with
      | cons p1 p2 p3 =>
        obtain ⟨e1, r1⟩ := r1
        have h2 : ((kd k).showable = true ∧ d.showable = true) ∧ PyData.showableKv ds = true := by
          simpa [PyData.showableKv] using hs
        have big : ((kd k).shown ++ ": " ++ d.shown).length ≤ sizeLine :=
          hz _ (by simp only [PyData.shownKv]; exact List.mem_cons_self)
        have big2 : (kd k).shown.length + 2 + d.shown.length ≤ sizeLine := by
          have e2 : ((kd k).shown ++ ": " ++ d.shown).length = (kd k).shown.length + 2 + d.shown.length := by
            rw [Str.length_append, Str.length_append]
            rfl
          omega
        rw [← p2] at r1
        rw [← e1] at p1
        dsimp only at p1
        obtain ⟨q0, k0⟩ := rk_key (X := X) (s := s) p1 h2.1.1 (by omega)
        obtain ⟨a1, b1, q1, m1, k1⟩ := Dq.rk I h _ r1 h2.1.2 (by omega)
        obtain ⟨a2, c2, b2, q2, q3, m2, k2⟩ := DqKv.rk I hl _ _ r2 p3 h2.2
          fun t ht => hz t (by simp only [PyData.shownKv]; exact List.mem_cons_of_mem _ ht)
        refine ⟨_, _, b1 ++ b2, .cons q0 q2, .cons q1 q3, ?_, ?_⟩
        · simp only [PyData.depthKv]
          intro c hc
          obtain ⟨d', xs, r', l⟩ := ram_app m1 m2 c hc
          exact ⟨d', xs, r', by omega⟩
        · simp only [PyData.depthKv, PyData.shownKv]
          exact .cons (k0 _ _) ((k1.more fun b hb => List.mem_append_left _ hb).level_le (by omega))
            (ek_more (fun b hb => List.mem_append_right _ hb) (Nat.le_max_right _ _) k2)
end
end
section
variable {X : Cx}
/-- repr(x), x a list, a tuple or a dict of data -/
def rShq (K : PySem.W.Frag) : List V → Hp → VK → Prop := fun xs H Q => ∃ (a : Addr) (d : PyData), xs = [.ref a] ∧
  Dq K H (.ref a) d ∧ d.showable = true ∧ d.depth ≤ 60 ∧ d.shown.length ≤ sizeLine ∧ Q (.str d.shown) H
theorem call_repq (hA : X.A.guards = some []) (hu : X.A.units + 64 < cLine) :
    CallR X (.builtin "repr") (rShq X.K) := by
  intro pins s σ H xs us Q I r h
  obtain ⟨a, d, rfl, hd, hs, hdp, hz, q⟩ := h
  obtain ⟨u, rfl, ru⟩ := vals1 r
  obtain rfl : u = Value.ref a := ru
  have fin : ∀ (t : Str), t = d.shown → ∀ (h' : Heap) (u : Tok) (tk : Nat), (∀ b o, s.heap.get? b = some o → h'.get? b = some o) →
      ∃ x tt, Value.str t u = .str x tt ∧ EP X pins σ Q (.str t u) { s with heap := h', toks := tk } := by
    intro t et h' u tk keep
    subst et
    exact ⟨_, _, rfl, .str _, H, I.kept keep, ⟨u, rfl⟩, q⟩
  cases hd with
  | lst hq ha =>
    rename_i xs ds
    obtain ⟨its, rv, ⟨o, n, ho, hc, _, hdd⟩, _⟩ := I.list hq
    have hz1 : (listText (PyData.shownAll ds)).length ≤ sizeLine := by simpa only [PyData.shown] using hz
    obtain ⟨as, bs, rd, hb, hk⟩ := DqAll.rk I ha its rv (by simpa [PyData.showable] using hs)
      fun t ht => Nat.le_trans (listText_mem_le ht) hz1
    have R : Reads s.heap (.ref a) (.list ds) _ := .list ho hc hdd rd
    have nb : a ∉ bs := not_mem_of_deeper R (by simp only [PyData.depth]; omega) hb
    refine call_repr_slot (by omega) ⟨o, ho, hc⟩ F.slot_list_repr.toG ?_
    simp only [PyData.depth] at hdp
    cases its with
    | nil =>
      cases rd
      exact call_list_repr_empty ⟨o, ho, hc⟩ ho hdd (fin "[]" (by simp [PyData.shown, PyData.shownAll, listText_nil]) _ _ _ fun _ _ e => e)
    | cons y l =>
      exact call_list_reprK ho hc hdd nb (by simpa using hk.length_eq) (fun i z e => hk.item i z (by simpa using e)) hA
        (fun b _ => Clear.nil b) (by show X.A.units + 1 + _ < cLine; omega) (fun _ _ e => e)
        (fun h' u tk keep => fin _ (by simp only [PyData.shown]) h' u tk keep) hz1
  | tup hq ha =>
    rename_i xs ds
    obtain ⟨its, rv, ⟨o, ho, hc, n, hdd⟩, _⟩ := I.tuple hq
    have hz1 : (tupleText (PyData.shownAll ds)).length ≤ sizeLine := by simpa only [PyData.shown] using hz
    obtain ⟨as, bs, rd, hb, hk⟩ := DqAll.rk I ha its rv (by simpa [PyData.showable] using hs)
      fun t ht => Nat.le_trans (tupleText_mem_le ht) hz1
    have R : Reads s.heap (.ref a) (.tuple ds) _ := .tuple ho hc hdd rd
    have nb : a ∉ bs := not_mem_of_deeper R (by simp only [PyData.depth]; omega) hb
    refine call_repr_slot (by omega) ⟨o, ho, hc⟩ F.slot_tuple_repr ?_
    simp only [PyData.depth] at hdp
    exact call_tuple_reprK ho hc hdd nb hk hA (fun b _ => Clear.nil b) (by show X.A.units + 1 + _ < cLine; omega)
      (fun _ _ e => e) (fun h' u tk keep => fin _ (by simp only [PyData.shown]) h' u tk keep) hz1
  | dic hq ha =>
    rename_i kvs ds
    obtain ⟨_, hsys, vs, rv, o, es, ep, ho, hc, hdd, _, hp, _⟩ :=
      (show ObjOk X.prog X.w H s.heap a (.dK kvs) from I.hok a _ hq)
    have hz1 : (dictText (PyData.shownKv ds)).length ≤ sizeLine := by simpa only [PyData.shown] using hz
    obtain ⟨as, cs, bs, r1, r2, hb, hk⟩ := DqKv.rk I ha es.toList vs rv hp (by simpa [PyData.showable] using hs)
      fun t ht => Nat.le_trans (dictText_mem_le ht) hz1
    have R : Reads s.heap (.ref a) (.dict ds) _ := .dict ho hc.1 hdd r1 r2
    have nb : a ∉ bs := not_mem_of_deeper R (by simp only [PyData.depth]; omega) hb
    refine call_repr_slot (by omega) ⟨o, ho, hc.1⟩ F.slot_dict_repr ?_
    simp only [PyData.depth] at hdp
    exact call_dict_reprK ho hc.1 hdd hsys nb hk hA (fun b _ => Clear.nil b) (by show X.A.units + 1 + _ < cLine; omega)
      (fun _ _ e => e) (fun h' u tk keep => fin _ (by simp only [PyData.shown]) h' u tk keep) hz1
end
end L2
namespace L2
open PySem PySem.Spec PyProof.Rows
/-- a list or a tuple -/
def SqS (K : PySem.W.Frag) (H : Hp) (a : Addr) (xs : List V) : Prop := SqL K H a xs ∨ SqT K H a xs
theorem SqS.len {K : PySem.W.Frag} {H : Hp} {a : Addr} {xs : List V} (h : SqS K H a xs) : LenV K (.ref a) H xs.length := by
  rcases h with h | h
  · exact .inl ⟨xs, h, rfl⟩
  · exact .inr ⟨xs, h, rfl⟩
end L2
namespace L2
open PySem PySem.Spec PyProof.Rows
/-- what a comprehension makes of its items: r by the turn and the item, none where a test leaves it out -/
def fm (r : Nat → V → Option V) : Nat → List V → List V
  | _, [] => []
  | i, x :: xs => (r i x).toList ++ fm r (i + 1) xs
theorem fm_len (r : Nat → V → Option V) : ∀ (xs : List V) (i : Nat), (fm r i xs).length ≤ xs.length
  | [], _ => Nat.le_refl _
  | x :: xs, i => by
    have := fm_len r xs (i + 1)
    unfold fm
    rw [List.length_append, List.length_cons]
    have : ((r i x).toList).length ≤ 1 := by cases r i x <;> simp
    omega
theorem fm_snoc (r : Nat → V → Option V) : ∀ (xs : List V) (x : V) (i : Nat),
    fm r i (xs ++ [x]) = fm r i xs ++ (r (i + xs.length) x).toList
  | [], x, i => by simp [fm]
  | y :: ys, x, i => by
    have e : i + 1 + ys.length = i + (y :: ys).length := by rw [List.length_cons]; omega
    show (r i y).toList ++ fm r (i + 1) (ys ++ [x]) = _
    rw [fm_snoc r ys x (i + 1), e, ← List.append_assoc]
    rfl
/-- one turn's parts -/
def Pure1 (r : Nat → V → Option V) (g : TG) (tt : TT) (te : TE) (vs : List Nat) (σ : St) (i : Nat) (x : V) (H : Hp) : Prop :=
  ∀ (Ky : VK) (Kn : Hp → Prop), (∀ y, r i x = some y → Ky y H) → (r i x = none → Kn H) →
    g x (wipe σ vs) H fun σ2 H2 => wipe σ2 vs = wipe σ vs ∧ tt σ2 H2 fun b H3 => if b = true then te σ2 H3 Ky else Kn H3
theorem pure_turn {r : Nat → V → Option V} {g : TG} {tt : TT} {te : TE} {vs : List Nat} {σ : St} {H1 : Hp} {D : Addr}
    {xs : List V} {i : Nat} {x : V} {Pv : Nat → Hp → Prop} (hx : xs[i]? = some x) (hz : xs.length ≤ sizeLine)
    (hP : ∀ j H, Pv j H ↔ H = upd H1 D (.lst (fm r 0 (xs.take j)))) {H : Hp} (hH : Pv i H)
    (h : Pure1 r g tt te vs σ i x H) :
    g x (wipe σ vs) H fun σ2 H2 => wipe σ2 vs = wipe σ vs ∧ tt σ2 H2 fun b H3 =>
      if b = true then te σ2 H3 fun y H4 => ∃ acc, H4 D = some (.lst acc) ∧ acc.length < sizeLine ∧
        Pv (i + 1) (upd H4 D (.lst (acc ++ [y]))) else Pv (i + 1) H3 := by
  have e := (hP i H).mp hH
  have hi : i < xs.length := (List.getElem?_eq_some_iff.mp hx).1
  have tk : xs.take (i + 1) = xs.take i ++ [x] := by
    rw [List.take_add_one, hx]
    rfl
  have l : (xs.take i).length = i := by rw [List.length_take]; omega
  have sn : fm r 0 (xs.take (i + 1)) = fm r 0 (xs.take i) ++ (r i x).toList := by
    rw [tk, fm_snoc, l, Nat.zero_add]
  refine h _ _ (fun y hy => ?_) fun hn => ?_
  · refine ⟨fm r 0 (xs.take i), by rw [e]; exact upd_same, ?_, (hP _ _).mpr ?_⟩
    · have := fm_len r (xs.take i) 0
      omega
    · rw [e, upd_upd, sn, hy]
      rfl
  · rw [hP, e, sn, hn]
    simp
section
variable {K : PySem.W.Frag} {a : Addr} {xs : List V} {r : Nat → V → Option V} {g : TG} {tt : TT} {te : TE}
  {vs : List Nat} {σ : St} {H : Hp} {Q : VK} {tl : TE}
theorem sqT_upd {H : Hp} {D : Addr} {u : HO} (h : SqT K H a xs) (hD : H D = none) : SqT K (upd H D u) a xs := by
  rcases h with (h | ⟨o, h⟩) | h
  · exact .inl (.inl (upd_new hD h))
  · exact .inl (.inr ⟨o, upd_new hD h⟩)
  · exact .inr h
theorem SqS.ty {K : PySem.W.Frag} {H : Hp} {a : Addr} {xs : List V} (h : SqS K H a xs) :
    ∃ T : String, (T = "list" ∨ T = "tuple") ∧ TyX K H (.ref a) (.type T) := by
  rcases h with ((h | ⟨o, h⟩) | ⟨o, _, _, h, c, _⟩) | ((h | ⟨o, h⟩) | ⟨o, _, _, h, c, _⟩)
  · exact ⟨_, .inl rfl, .base (.lst h)⟩
  · exact ⟨_, .inl rfl, .base (.frz h)⟩
  · exact ⟨_, .inl rfl, .kList h c⟩
  · exact ⟨_, .inr rfl, .base (.tup h)⟩
  · exact ⟨_, .inr rfl, .fTuple h⟩
  · exact ⟨_, .inr rfl, .kTuple h c⟩
theorem fm_map (f : V → V) (r : Nat → V → Option V) (h : ∀ i x, r i x = some (f x)) :
    ∀ (xs : List V) (i : Nat), fm r i xs = xs.map f
  | [], _ => rfl
  | x :: xs, i => by
    unfold fm
    rw [h, fm_map f r h xs]
    rfl
theorem yes_run {te : TE} {σ : St} {H : Hp} {Ky : VK} {Kn : Hp → Prop} (h : te σ H Ky) :
    tYes σ H fun b H3 => if b = true then te σ H3 Ky else Kn H3 := by
  show if true = true then te σ H Ky else Kn H
  rw [if_pos rfl]
  exact h
/-- a module's whole number -/
theorem pe_cst {X : Cx} {x : Str} {i : Int} {pos : Pos} (hg : Gl X x) (h : ∃ t, X.mg x = some (.int i t))
    (hd : (x == ("__debug__" : Str)) = false := by decide) : PE X (.Name x pos) (tC (.int i)) := by
  obtain ⟨t, e⟩ := h
  exact pe_glob hg e ⟨t, rfl⟩ hd
end
end L2
namespace L2
open PySem PySem.Spec PyProof.Rows
end L2
namespace L2
open PySem PySem.Spec PyProof.Rows
/-- what a def of the top keeps, whatever its guards are -/
def Kf (P : Program) (w : World) (K : PySem.W.Frag) (mg : Str → Option Value) (base : Heap) (k : Nat) (x : Str)
    (ps : List Str) (sp : Sp) : Prop :=
  ∃ f fd, mg x = some (.ref f) ∧ PySem.W.keepIn K (.ref f) = true ∧ Binds K fd ps [] ∧
    FnOk P w K mg base CX0 k f fd ps sp
section
variable {P : Program} {w : World} {K : PySem.W.Frag} {mg : Str → Option Value} {base : Heap}
theorem OwnD.okF {x : Str} {st : Stmt} {N ps : List Str} {k : Nat} {sp : Sp} (O : OwnD K mg x st ps)
    (S : FnScope N ps (defScope st)) (len : ∀ vs H Q E, sp vs H Q E → vs.length = ps.length)
    (hbody : ∀ (f : Addr) (cdv : Value) (A : Around) (outer : List Env) (s : Shared) (H : Hp) (vs : List V) (Q : VK)
      (E : XK), True →
      Room k (A.deeper (envOfC x (defScope st) s.heap.objs.size f cdv)) → sp vs H Q E →
      ∃ t, PSs (cxOf CX0 P w K mg base N x (defScope st) f cdv A outer s H E).nox (defBody st) t ∧
        t { nx := fun _ H' => Q .non H', rt := Q } (start N vs) H) :
    Kf P w K mg base (k + 1) x ps sp := by
  obtain ⟨f, fd, hm, F, b⟩ := O
  exact ⟨f, fd, hm, F.kp, b, F.ok S len fun cdv A outer s H vs Q E hr h => hbody f cdv A outer s H vs Q E trivial hr h⟩
end
section
variable {X : Cx} {k j : Nat} {ps : List Str} {sp : Sp} {x : Str} {p pos : Pos} {e : Expr} {es : List Expr} {t : TA}
theorem pe_kf (F : Kf X.prog X.w X.K X.mg X.base k x ps sp) {G : Prop} (hA : G) (hr : Room j X.A)
    (hg : Gl X x) (ha : PA X (e :: es) t) (hj : k ≤ j := by decide)
    (hdb : (x == ("__debug__" : Str)) = false := by decide)
    (he : starEach (e :: es) X.env = (false, eval e X.env) :: starEach es X.env := by rfl)
    (hpl : (backTo pos (starEach es X.env)).any (·.1) = false := by rfl)
    (hx : Passes CX0 X E0 := by exact pass0) :
    PE X (.Call (.Name x p) (e :: es) [] pos) (tCall sp [] E0 t) := by
  obtain ⟨f, fd, hm, hk, hb, G⟩ := F
  exact pe_call G (hr.mono hj) hg hm hk hb .nil hx ha hdb he hpl
end
end L2
namespace L2
open PySem PySem.Spec PyProof.Rows
end L2
namespace L2
open PySem PySem.Spec PyProof.Rows
/-- a reading may be made weaker -/
theorem PE.weaker {X : Cx} {e : Expr} {t t' : TE} (h : PE X e t) (imp : ∀ σ H Q, t' σ H Q → t σ H Q) : PE X e t' :=
  ⟨fun pins s σ H Q I z => h.run pins s σ H Q I (imp σ H Q z)⟩
/-- a def of a class, its own text -/
abbrev MD (K : PySem.W.Frag) (x qual : Str) (st : Stmt) (dvs : List V) (f : Addr) (fd : FuncData) : Prop :=
  FunD K x qual (defArgs st) (defBody st) (defScope st) dvs [] f fd
section
variable {P : Program} {w : World} {K : PySem.W.Frag} {mg : Str → Option Value} {base : Heap}
theorem FunD.okM {x qual : Str} {st : Stmt} {dvs : List V} {f : Addr} {fd : FuncData} {N ps : List Str} {k : Nat} {sp : Sp}
    (F : MD K x qual st dvs f fd)
    (S : FnScope N ps (defScope st)) (len : ∀ vs H Q E, sp vs H Q E → vs.length = ps.length)
    (hbody : ∀ (f : Addr) (cdv : Value) (A : Around) (outer : List Env) (s : Shared) (H : Hp) (vs : List V) (Q : VK)
      (E : XK), True →
      Room k (A.deeper (envOfC qual (defScope st) s.heap.objs.size f cdv)) → sp vs H Q E →
      ∃ t, PSs (cxOf CX0 P w K mg base N qual (defScope st) f cdv A outer s H E).nox (defBody st) t ∧
        t { nx := fun _ H' => Q .non H', rt := Q } (start N vs) H) :
    FnOk P w K mg base CX0 (k + 1) f fd ps sp :=
  F.ok S len fun cdv A outer s H vs Q E hr h =>
    have ⟨t, ht, q⟩ := hbody f cdv A outer s H vs Q E trivial hr h
    ⟨t, ht.nox, q⟩
end
end L2
namespace PySem.W
open Lean Elab Tactic Meta PySem PySem.Calls PyProof.Rows
end PySem.W
namespace L2
open PySem PySem.Spec PyProof.Rows
section
variable {X : Cx} {pins : List (Addr × Obj)} {σ : St} {H : Hp} {s : Shared}
theorem ins_at {C a dx : Addr} {fs : List (Str × V)} (I : Inv X pins σ H s) (e : H a = some (.ins C dx fs)) : ∃ od, PySem.W.InstAt s.heap a (PySem.W.instObj C dx) C (some od) := by
  obtain ⟨mA, O, _⟩ := ins_get I.hok e
  obtain ⟨od, J, _⟩ := O.look
  exact ⟨od, J⟩
end
/-- what a method of a class keeps that Python calls by itself -/
def Kop (P : Program) (w : World) (K : PySem.W.Frag) (mg : Str → Option Value) (base : Heap) (C : Addr) (k : Nat) (nm : Str) (ps : List Str) (sp : Sp) : Prop :=
  ∃ f fd, PySem.W.findIn K (.ref C) nm = some (some (.ref f)) ∧ PySem.W.isFn K (.ref f) = true ∧ Binds K fd ps [] ∧ FnOk P w K mg base CX0 k f fd ps sp
end L2
namespace KC
open PySem L2
local macro_rules | `(tactic| walk_at "hp") => `(tactic| first
  | assumption
  | exact upd_same
  | (refine upd_new (by assumption) ?_; walk_at "hp")
  | (refine upd_oth (by first | assumption | (apply Ne.symm; assumption)) ?_; walk_at "hp"))
def top (i : Nat) : Stmt := PySem.Challenge.pw_headgap_k17_steps_tails_and_states_told.main.body.getD i (.Pass ⟨0, 0, 0, 0⟩)
abbrev s_ipair : Stmt := top 23
abbrev n_ipair : List Str := ["value"]
theorem sc_ipair : FnScope n_ipair ["value"] (defScope s_ipair) :=
  ⟨rfl, rfl, rfl, by decide +kernel, rfl, by decide +kernel, by decide +kernel⟩
abbrev s_iletters : Stmt := top 24
abbrev n_iletters : List Str := ["value", "least", "most"]
theorem sc_iletters : FnScope n_iletters ["value", "least", "most"] (defScope s_iletters) :=
  ⟨rfl, rfl, rfl, by decide +kernel, rfl, by decide +kernel, by decide +kernel⟩
abbrev s_iletter : Stmt := top 25
abbrev n_iletter : List Str := ["value"]
theorem sc_iletter : FnScope n_iletter ["value"] (defScope s_iletter) :=
  ⟨rfl, rfl, rfl, by decide +kernel, rfl, by decide +kernel, by decide +kernel⟩
abbrev s_iname : Stmt := top 26
abbrev n_iname : List Str := ["value"]
theorem sc_iname : FnScope n_iname ["value"] (defScope s_iname) :=
  ⟨rfl, rfl, rfl, by decide +kernel, rfl, by decide +kernel, by decide +kernel⟩
abbrev s_ianswer : Stmt := top 27
abbrev n_ianswer : List Str := ["value"]
theorem sc_ianswer : FnScope n_ianswer ["value"] (defScope s_ianswer) :=
  ⟨rfl, rfl, rfl, by decide +kernel, rfl, by decide +kernel, by decide +kernel⟩
abbrev s_itext : Stmt := top 28
abbrev s_igoal : Stmt := top 30
abbrev n_igoal : List Str := ["value"]
theorem sc_igoal : FnScope n_igoal ["value"] (defScope s_igoal) :=
  ⟨rfl, rfl, rfl, by decide +kernel, rfl, by decide +kernel, by decide +kernel⟩
abbrev s_asteps : Stmt := top 31
abbrev n_asteps : List Str := ["steps", "key"]
theorem sc_asteps : FnScope n_asteps ["steps"] (defScope s_asteps) :=
  ⟨rfl, rfl, rfl, by decide +kernel, rfl, by decide +kernel, by decide +kernel⟩
abbrev s_atails : Stmt := top 32
abbrev n_atails : List Str := ["tails", "name"]
theorem sc_atails : FnScope n_atails ["tails"] (defScope s_atails) :=
  ⟨rfl, rfl, rfl, by decide +kernel, rfl, by decide +kernel, by decide +kernel⟩
abbrev s_snames : Stmt := top 34
abbrev n_snames : List Str := ["start", "steps", "tails", "names", "state", "letter", "_", "to", "name"]
theorem sc_snames : FnScope n_snames ["start", "steps", "tails"] (defScope s_snames) :=
  ⟨rfl, rfl, rfl, by decide +kernel, rfl, by decide +kernel, by decide +kernel⟩
abbrev s_sletters : Stmt := top 35
abbrev n_sletters : List Str := ["steps", "found", "state", "letter"]
theorem sc_sletters : FnScope n_sletters ["steps"] (defScope s_sletters) :=
  ⟨rfl, rfl, rfl, by decide +kernel, rfl, by decide +kernel, by decide +kernel⟩
abbrev s_followed : Stmt := top 36
abbrev s_init : Stmt := inClass (top 53) 3
abbrev n_init : List Str := ["self", "start", "steps", "tails", "states", "letters", "key", "state"]
theorem sc_init : FnScope n_init ["self", "start", "steps", "tails"] (defScope s_init) :=
  ⟨rfl, rfl, rfl, by decide +kernel, rfl, by decide +kernel, by decide +kernel⟩
abbrev s_lpen : Stmt := top 55
abbrev n_lpen : List Str := ["_law_script"]
theorem sc_lpen : FnScope n_lpen ["_law_script"] (defScope s_lpen) :=
  ⟨rfl, rfl, rfl, by decide +kernel, rfl, by decide +kernel, by decide +kernel⟩
abbrev s_ldraw : Stmt := top 56
abbrev n_ldraw : List Str := ["_law_pen_here", "_law_many", "_law_digit", "_law_at", "_law_cell", "_law_great", "_law_mixed"]
theorem sc_ldraw : FnScope n_ldraw ["_law_pen_here", "_law_many"] (defScope s_ldraw) :=
  ⟨rfl, rfl, rfl, by decide +kernel, rfl, by decide +kernel, by decide +kernel⟩
abbrev s_lpick : Stmt := top 57
abbrev n_lpick : List Str := ["_law_pen_here", "_law_some"]
theorem sc_lpick : FnScope n_lpick ["_law_pen_here", "_law_some"] (defScope s_lpick) :=
  ⟨rfl, rfl, rfl, by decide +kernel, rfl, by decide +kernel, by decide +kernel⟩
abbrev s_lparts : Stmt := top 58
abbrev n_lparts : List Str := ["_law_pen_here", "_law_some", "_law_states_so", "_law_letters_so", "_law_steps_so", "_law_tails_so", "_law_state", "_law_letter", "_law_answer"]
theorem sc_lparts : FnScope n_lparts ["_law_pen_here"] (defScope s_lparts) :=
  ⟨rfl, rfl, rfl, by decide +kernel, rfl, by decide +kernel, by decide +kernel⟩
abbrev s_lstates : Stmt := top 59
abbrev n_lstates : List Str := ["_law_parts_here", "_law_found", "_law_state", "_law_letter"]
theorem sc_lstates : FnScope n_lstates ["_law_parts_here"] (defScope s_lstates) :=
  ⟨rfl, rfl, rfl, by decide +kernel, rfl, by decide +kernel, by decide +kernel⟩
abbrev s_lheard : Stmt := top 60
abbrev n_lheard : List Str := ["_law_ask", "_law_caught", "_law_found", "error", "_law_some"]
theorem sc_lheard : FnScope n_lheard ["_law_ask"] (defScope s_lheard) :=
  ⟨rfl, rfl, rfl, by decide +kernel, rfl, by decide +kernel, by decide +kernel⟩
abbrev s_lright : Stmt := top 61
abbrev n_lright : List Str := ["_law_made", "_law_parts_here", "_law_states_so", "_law_state", "_law_letter", "_law_due", "_law_letters_so", "_law_pairs", "_law_other"]
theorem sc_lright : FnScope n_lright ["_law_made", "_law_parts_here"] (defScope s_lright) :=
  ⟨rfl, rfl, rfl, by decide +kernel, rfl, by decide +kernel, by decide +kernel⟩
abbrev s_lrefusedright : Stmt := top 62
abbrev n_lrefusedright : List Str := ["_law_pen_here", "_law_made", "_law_parts_here", "_law_key", "_law_odd", "_law_bad", "_law_heard_here", "_law_due", "_law_one"]
theorem sc_lrefusedright : FnScope n_lrefusedright ["_law_pen_here", "_law_made", "_law_parts_here"] (defScope s_lrefusedright) :=
  ⟨rfl, rfl, rfl, by decide +kernel, rfl, by decide +kernel, by decide +kernel⟩
abbrev s_law : Stmt := top 63
abbrev n_law : List Str := ["_law_script", "_law_pen_here", "_law_lap", "_law_parts_here", "_law_made", "_law_bare", "_law_state"]
theorem sc_law : FnScope n_law ["_law_script"] (defScope s_law) :=
  ⟨rfl, rfl, rfl, by decide +kernel, rfl, by decide +kernel, by decide +kernel⟩
def blts : List Str := ["iter", "len", "repr", "isinstance", "abs", "int", "list", "range", "tuple", "bool", "all", "any", "max", "min", "str", "dict", "sorted", "enumerate"]
/-- the pen at p: its cells are ns, at most n draws are done -/
def PenAt (H : Hp) (p c : Addr) (ns : List Int) (n : Nat) : Prop :=
  ∃ (t g : Int), H p = some (.lst [.ref c, .int t, .int g]) ∧ H c = some (.lst (ns.map V.int)) ∧ c ≠ p ∧ 0 ≤ t ∧ t ≤ n
def spPen (K : PySem.W.Frag) : Sp := fun vs H Q _ => ∃ (a : Addr) (ns : List Int), vs = [.ref a] ∧
  SqL K H a (ns.map V.int) ∧ ns.length ≤ 63 ∧
  ∀ (p c : Addr) (H' : Hp), H p = none → H c = none → Same H H' → PenAt H' p c ns 0 → Q (.ref p) H'
def spDraw : Sp := fun vs H Q _ => ∃ (p c : Addr) (many : Int) (ns : List Int) (n : Nat),
  vs = [.ref p, .int many] ∧ PenAt H p c ns n ∧ ns.length ≤ 63 ∧ 1 ≤ many ∧ many < 1000000000 ∧ n < 1000000 ∧
  ∀ (r : Int) (H' : Hp), 0 ≤ r → r < many → PenAt H' p c ns (n + 1) → But p H H' → Q (.int r) H'
structure Txt (K : PySem.W.Frag) (mg : Str → Option Value) : Prop where
  nb : ∀ x ∈ blts, mg x = none
  cs_letters : ∃ t, mg "LETTERS" = some (.str "abcdefghijklmnopqrstuvwxyz" t)
  cs_name : ∃ t, mg "LONGEST_NAME" = some (.int 8 t)
  cs_answer : ∃ t, mg "LONGEST_ANSWER" = some (.int 4 t)
  cs_text : ∃ t, mg "LONGEST_TEXT" = some (.int 400 t)
  d_ipair : OwnD K mg "is_pair" s_ipair ["value"]
  d_iletters : OwnD K mg "is_letters" s_iletters ["value", "least", "most"]
  d_iletter : OwnD K mg "is_letter" s_iletter ["value"]
  d_iname : OwnD K mg "is_name" s_iname ["value"]
  d_ianswer : OwnD K mg "is_answer" s_ianswer ["value"]
  d_itext : OwnD K mg "is_text" s_itext ["value"]
  d_igoal : OwnD K mg "is_goal" s_igoal ["value"]
  d_asteps : OwnD K mg "are_steps" s_asteps ["steps"]
  d_atails : OwnD K mg "are_tails" s_atails ["tails"]
  d_snames : OwnD K mg "state_names" s_snames ["start", "steps", "tails"]
  d_sletters : OwnD K mg "step_letters" s_sletters ["steps"]
  d_followed : OwnD K mg "followed" s_followed ["converter", "start", "text"]
  d_pen : OwnD K mg "_law_pen" s_lpen ["_law_script"]
  d_draw : OwnD K mg "_law_draw" s_ldraw ["_law_pen_here", "_law_many"]
  d_pick : OwnD K mg "_law_pick" s_lpick ["_law_pen_here", "_law_some"]
  d_lparts : OwnD K mg "_law_parts" s_lparts ["_law_pen_here"]
  d_lstates : OwnD K mg "_law_states" s_lstates ["_law_parts_here"]
  d_lheard : OwnD K mg "_law_heard" s_lheard ["_law_ask"]
  d_lright : OwnD K mg "_law_right" s_lright ["_law_made", "_law_parts_here"]
  d_lrefusedright : OwnD K mg "_law_refused_right" s_lrefusedright ["_law_pen_here", "_law_made", "_law_parts_here"]
  d_law : OwnD K mg "law" s_law ["_law_script"]
section
variable {P : Program} {w : World} {K : PySem.W.Frag} {mg : Str → Option Value} {base : Heap}
theorem eqv_nil (ds : List PyData) : PyData.eqv (.list ds) (.list []) = ds.isEmpty := by
  cases ds <;> simp [PyData.eqv, PyData.eqvAll]
theorem shaped_ints (ns : List Int) : SeqAt.shaped (.list (ns.map PyData.int)) = true := by
  have h1 : ∀ l : List Int, PyData.canLayAll0 (l.map PyData.int) = true := by
    intro l
    induction l with
    | nil => simp [PyData.canLayAll0]
    | cons a l ih => simp [PyData.canLayAll0, PyData.canLay0, ih]
  have h2 : ∀ l : List Int, PyData.depthAll (l.map PyData.int) ≤ 1 := by
    intro l
    induction l with
    | nil => simp [PyData.depthAll]
    | cons a l ih => simp [PyData.depthAll, PyData.depth]; omega
  unfold SeqAt.shaped
  have := h2 ns
  simp [PyData.canLay0, PyData.depth, h1]
  omega
theorem kp_draw (T : Txt K mg) : Kf P w K mg base 1 "_law_draw" ["_law_pen_here", "_law_many"] spDraw := by
  refine T.d_draw.okF sc_ldraw (fun vs H Q E h => ?_) (fun f cdv A outer s H vs Q E hA hr h => ?_)
  · obtain ⟨p, c, m, ns, n, rfl, _⟩ := h
    rfl
  · obtain ⟨p, c, m, ns, n, rfl, ⟨t, g, hp, hc, ne, t0, t1⟩, hlen, m0, m1, hn, k⟩ := h
    have fin : ∀ (r t' g' : Int) (H' : Hp), 0 ≤ r → r < m → 0 ≤ t' → t' ≤ (n : Int) + 1 → H' p = some (.lst [.ref c, .int t', .int g']) →
        But p H H' → Q (.int r) H' := fun r t' g' H' r0 r1 a b e fr =>
      k r H' r0 r1 ⟨t', g', e, fr c ne _ hc, ne, a, by omega⟩ fr
    refine ⟨_, (pss_cons (ps_if (pt_cmpR op_gt (pe_ix (ix_list : IxR _ (rIxL K)) (pv 0) (pe_int) (fun _ _ => rfl)) (pe_int) (nomark _))
 (pss_cons (ps_set (i := 2) sc_ldraw.nd rfl (Or.inl rfl) (pe_op op_modW (pe_callTy call_intI (by rfl) (T.nb _ (by decide)) (by decide +kernel) (pa_cons (pe_ix (ix_list : IxR _ (rIxL K)) (pv 0) (pe_int) (fun _ _ => rfl)) pa_nil)) (pv 1)))
 (pss_cons (ps_asg (pe_op op_divW (pe_callTy call_intI (by rfl) (T.nb _ (by decide)) (by decide +kernel) (pa_cons (pe_ix (ix_list : IxR _ (rIxL K)) (pv 0) (pe_int) (fun _ _ => rfl)) pa_nil)) (pv 1)) (pg_sub (pv 0) (pe_int) set_list))
 (pss_one (ps_ret (pv 2))))) pss_nil)
 (pss_cons (ps_set (i := 3) sc_ldraw.nd rfl (Or.inl rfl) (pe_ix (ix_list : IxR _ (rIxL K)) (pv 0) (pe_int) (fun _ _ => rfl)))
 (pss_cons (ps_asg (pe_op op_add (pv 3) (pe_int)) (pg_sub (pv 0) (pe_int) set_list))
 (pss_cons (ps_set (i := 4) sc_ldraw.nd rfl (Or.inl rfl) (pe_op op_add (pe_op op_mulW' (pe_int) (pv 3)) (pe_int)))
 (pss_mid (ps_if (pt_cmpR (op_neD hr.units) (pe_ix (ix_list : IxR _ (rIxL K)) (pv 0) (pe_int) (fun _ _ => rfl)) (pe_lst pa_nil) (nomark _))
 (pss_one (ps_set (i := 4) sc_ldraw.nd rfl (Or.inl rfl) (pe_ix (ix_list : IxR _ (rIxL K)) (pe_ix (ix_list : IxR _ (rIxL K)) (pv 0) (pe_int) (fun _ _ => rfl)) (pe_op op_modW (pe_callTy call_intI (by rfl) (T.nb _ (by decide)) (by decide +kernel) (pa_cons (pv 3) pa_nil)) (pe_callB call_len (by rfl) (T.nb _ (by decide)) PySem.boot_len (pa_cons (pe_ix (ix_list : IxR _ (rIxL K)) (pv 0) (pe_int) (fun _ _ => rfl)) pa_nil))) (fun _ _ => rfl)))) pss_nil)
 (pss_mid (ps_if (PW.pt (pw_and (pt_cmpR op_lt (pv 3) (pe_callB call_len (by rfl) (T.nb _ (by decide)) PySem.boot_len (pa_cons (pe_ix (ix_list : IxR _ (rIxL K)) (pv 0) (pe_int) (fun _ _ => rfl)) pa_nil)) (nomark _)) (pw_and1 (pt_cmpR op_ge (pe_callB call_abs (by rfl) (T.nb _ (by decide)) (by decide +kernel) (pa_cons (pv 4) pa_nil)) (pe_op op_pow (pe_int) (pe_int)) (nomark _)))))
 (pss_cons (ps_set (i := 5) sc_ldraw.nd rfl (Or.inl rfl) (pe_op op_add (pe_op op_mulW' (pe_int) (pe_op op_sub (pe_callB call_abs (by rfl) (T.nb _ (by decide)) (by decide +kernel) (pa_cons (pv 4) pa_nil)) (pe_op op_pow (pe_int) (pe_int)))) (pe_callTy call_intB (by rfl) (T.nb _ (by decide)) (by decide +kernel) (pa_cons (pe_cmpR op_lt (pv 4) (pe_int) (nomark _)) pa_nil))))
 (pss_cons (ps_asg (pe_op op_divW (pe_callTy call_intI (by rfl) (T.nb _ (by decide)) (by decide +kernel) (pa_cons (pv 5) pa_nil)) (pv 1)) (pg_sub (pv 0) (pe_int) set_list))
 (pss_one (ps_ret (pe_op op_modW (pe_callTy call_intI (by rfl) (T.nb _ (by decide)) (by decide +kernel) (pa_cons (pv 5) pa_nil)) (pv 1)))))) pss_nil)
 (pss_cons (ps_set (i := 6) sc_ldraw.nd rfl (Or.inl rfl) (pe_op op_modW (pe_callTy call_intI (by rfl) (T.nb _ (by decide)) (by decide +kernel) (pa_cons (pe_op op_powW (pe_op op_add (pe_op op_add (pe_op op_modW (pe_callTy call_intI (by rfl) (T.nb _ (by decide)) (by decide +kernel) (pa_cons (pv 4) pa_nil)) (pe_int)) (pe_op op_mulW' (pe_int) (pv 3))) (pe_int)) (pe_int)) pa_nil)) (pe_int)))
 (pss_cons (ps_set (i := 6) sc_ldraw.nd rfl (Or.inl rfl) (pe_op op_modW (pe_callTy call_intI (by rfl) (T.nb _ (by decide)) (by decide +kernel) (pa_cons (pe_op op_powW (pe_op op_add (pe_op op_add (pe_op op_mulW' (pv 6) (pe_op op_add (pe_op op_mulW' (pe_int) (pv 3)) (pe_int))) (pe_op op_mulW' (pe_op op_mulW' (pe_int) (pv 3)) (pv 3))) (pe_int)) (pe_int)) pa_nil)) (pe_int)))
 (pss_one (ps_ret (pe_op op_modW (pe_callTy call_intI (by rfl) (T.nb _ (by decide)) (by decide +kernel) (pa_cons (pe_op op_divW (pv 6) (pe_int)) pa_nil)) (pv 1)))))))))))), ?_⟩
    refine ⟨_, rfl, _, _, _, _, rfl, rfl, SqL.of (by walk_at "hp"), rfl, _, _, rfl, rfl, _, rfl, ?_⟩
    refine ite2 (fun c1 => ?_) (fun c1 => ?_)
    · -- a digit of a great cell
      refine ⟨_, rfl, _, _, _, _, rfl, rfl, SqL.of (by walk_at "hp"), rfl, _, rfl, _, rfl, _, _, rfl, rfl, by omega, fun r r0 r1 => ?_⟩
      refine ⟨_, rfl, _, _, _, _, rfl, rfl, SqL.of (by walk_at "hp"), rfl, _, rfl, _, rfl, _, _, rfl, rfl, by omega, by omega, fun q z _ _ _ => ?_⟩
      refine ⟨_, rfl, _, _, _, _, rfl, rfl, by walk_at "hp", rfl, _, rfl, ?_⟩
      exact fin r t q _ r0 r1 t0 (by omega) upd_same (fun b hb o e => upd_oth hb e)
    · refine ⟨_, rfl, _, _, _, _, rfl, rfl, SqL.of (by walk_at "hp"), rfl, ?_⟩
      refine ⟨_, rfl, _, _, rfl, rfl, _, rfl, _, _, _, _, rfl, rfl, by walk_at "hp", rfl, ?_⟩
      refine ⟨_, rfl, _, _, rfl, rfl, .inl (by constructor <;> decide), fun z hz => ?_⟩
      refine ⟨_, _, rfl, rfl, ?_⟩
      have hp1 : ∀ u : HO, upd H p u p = some u := fun u => upd_same
      have hc1 : ∀ u : HO, upd H p u c = some (.lst (ns.map V.int)) := fun u => upd_oth ne hc
      have fr1 : ∀ u : HO, But p H (upd H p u) := fun u b hb o e => upd_oth hb e
      -- behind the first cell's choice: some int
      let σ2 : Int → St := fun v => [some (.ref p), some (.int m), none, some (.int t), some (.int v), none, none]
      refine ⟨fun σ' H' => (∃ v, σ' = σ2 v) ∧ H' p = some (.lst [.ref c, .int (t + 1), .int g]) ∧ But p H H', ?_, ?_⟩
      · refine ⟨_, rfl, _, _, _, _, rfl, rfl, SqL.of (hp1 _), rfl, by decide, fun l hl => ?_⟩
        have hp2 : ∀ u : HO, upd (upd H p (.lst [.ref c, .int (t + 1), .int g])) l u p = some (.lst [.ref c, .int (t + 1), .int g]) :=
          fun u => upd_new hl (hp1 _)
        have hc2 : ∀ u : HO, upd (upd H p (.lst [.ref c, .int (t + 1), .int g])) l u c = some (.lst (ns.map V.int)) :=
          fun u => upd_new hl (hc1 _)
        have fr2 : ∀ u : HO, But p H (upd (upd H p (.lst [.ref c, .int (t + 1), .int g])) l u) := fun u b hb o e => upd_new hl (fr1 _ b hb o e)
        refine ⟨_, _, .lst (SqL.of (hc2 _)) (dp_ints ns), .lst (SqL.of upd_same) .nil, shaped_ints ns, rfl, _, rfl, ?_⟩
        rw [eqv_nil]
        refine ite2 (fun c2 => ?_) (fun c2 => ?_)
        · have hne : 0 < (ns.length : Int) := by
            cases ns with
            | nil => simp at c2
            | cons a l => simp
          refine ⟨_, rfl, _, _, _, _, rfl, rfl, SqL.of (hp2 _), rfl, _, rfl, _, rfl, _, rfl, _, _, _, _, rfl, rfl, SqL.of (hp2 _), rfl, ?_⟩
          refine ⟨_, _, rfl, len_lst (hc2 _), _, _, rfl, rfl, ?_, fun r r0 r1 => ?_⟩
          · rw [List.length_map]; exact hne
          · rw [List.length_map] at r1
            obtain ⟨x, hx⟩ := at_map r0 r1
            exact ⟨_, _, _, _, rfl, rfl, SqL.of (hc2 _), hx, ⟨x, rfl⟩, hp2 _, fr2 _⟩
        · exact ⟨⟨_, rfl⟩, hp2 _, fr2 _⟩
      · rintro σ' H' ⟨⟨v, rfl⟩, hp', fr'⟩
        have hc' : H' c = some (.lst (ns.map V.int)) := fr' c ne _ hc
        refine ⟨fun σ1 H1 => σ1 = σ2 v ∧ H1 p = some (.lst [.ref c, .int (t + 1), .int g]) ∧ But p H H1, ?_, ?_⟩
        · refine ⟨_, rfl, _, rfl, _, _, _, _, rfl, rfl, SqL.of hp', rfl, _, _, rfl, len_lst hc', _, _, rfl, rfl, _, rfl, ?_⟩
          refine ite2 (fun c3 => ?_) (fun c3 => iteF ⟨rfl, hp', fr'⟩)
          refine ⟨_, rfl, _, rfl, _, _, rfl, rfl, ⟨by decide, by decide, by decide⟩, _, _, rfl, rfl, _, rfl, ?_⟩
          refine ite2 (fun c4 => ?_) (fun c4 => ⟨rfl, hp', fr'⟩)
          refine ⟨_, rfl, _, rfl, _, _, rfl, rfl, ⟨by decide, by decide, by decide⟩, _, _, rfl, rfl, _, _, rfl, rfl, .inl (by constructor <;> decide), fun z1 hz1 => ?_⟩
          refine ⟨_, rfl, _, _, rfl, rfl, _, rfl, fun i i0 i1 => ⟨_, _, rfl, rfl, ?_⟩⟩
          refine ⟨_, rfl, _, rfl, _, rfl, _, _, rfl, rfl, by omega, by omega, fun q z2 _ _ _ => ?_⟩
          refine ⟨_, rfl, _, _, _, _, rfl, rfl, by walk_at "hp", rfl, ?_⟩
          refine ⟨_, rfl, _, rfl, _, rfl, _, _, rfl, rfl, by omega, fun r r0 r1 => ?_⟩
          exact fin r (t + 1) q _ r0 r1 (by omega) (by omega) upd_same (fun b hb o e => upd_oth hb (fr' b hb o e))
        · rintro σ1 H1 ⟨rfl, hp1, fr1⟩
          refine ⟨_, rfl, _, rfl, _, _, rfl, rfl, by decide, fun r r0 r1 => ?_⟩
          refine ⟨_, rfl, _, _, rfl, rfl, .inl (by constructor <;> decide), fun z1 hz1 => ?_⟩
          refine ⟨_, _, rfl, rfl, _, _, rfl, rfl, _, _, rfl, rfl, by decide, by decide, by omega, fun z2 => ?_⟩
          refine ⟨_, rfl, _, _, rfl, rfl, by decide, fun b b0 b1 => ?_⟩
          refine ⟨_, rfl, _, rfl, _, _, rfl, rfl, .inl (by constructor <;> decide), fun z3 hz3 => ?_⟩
          refine ⟨_, _, rfl, rfl, _, _, rfl, rfl, .inl (by constructor <;> omega), fun z4 hz4 => ?_⟩
          refine ⟨_, rfl, _, _, rfl, rfl, .inl (by constructor <;> decide), fun z5 hz5 => ?_⟩
          refine ⟨_, rfl, _, _, rfl, rfl, .inl (by constructor <;> omega), fun z6 hz6 => ?_⟩
          have z40 : 0 ≤ z4 ∧ z4 ≤ 2147483647 * 2010000 := by
            subst hz4
            have a1 : 0 ≤ z3 + 165 := by omega
            have a2 : z3 + 165 ≤ 2010000 := by omega
            exact ⟨Int.mul_nonneg b0 a1, Int.le_trans (Int.mul_le_mul_of_nonneg_right (by omega) a1) (Int.mul_le_mul_of_nonneg_left a2 (by decide))⟩
          have z60 : 0 ≤ z6 ∧ z6 ≤ 59601 * 1000000 * 1000000 := by
            subst hz6
            have a1 : 0 ≤ t := t0
            have a2 : t ≤ 1000000 := by omega
            have a3 : 0 ≤ z5 := by omega
            exact ⟨Int.mul_nonneg a3 a1, Int.le_trans (Int.mul_le_mul_of_nonneg_right (by omega) a1) (Int.mul_le_mul_of_nonneg_left a2 (by decide))⟩
          refine ⟨_, _, rfl, rfl, _, _, rfl, rfl, _, _, rfl, rfl, by decide, by decide, by omega, fun z7 => ?_⟩
          refine ⟨_, rfl, _, _, rfl, rfl, by decide, fun d d0 d1 => ?_⟩
          refine ⟨_, rfl, _, _, rfl, rfl, by decide, by decide, fun q z8 _ _ _ => ?_⟩
          refine ⟨_, rfl, _, rfl, _, _, rfl, rfl, by omega, fun r2 r20 r21 => ?_⟩
          exact fin r2 (t + 1) g _ r20 r21 (by omega) (by omega) hp1 fr1
theorem kp_pen (T : Txt K mg) : Kf P w K mg base 1 "_law_pen" ["_law_script"] (spPen K) := by
  refine T.d_pen.okF sc_lpen (fun vs H Q E h => ?_) (fun f cdv A outer s H vs Q E hA hr h => ?_)
  · obtain ⟨a, ns, rfl, _⟩ := h
    rfl
  · obtain ⟨a, ns, rfl, hs, hlen, k⟩ := h
    refine ⟨_, (pss_one (ps_ret (pe_lst (pa_cons (pe_callTy call_list_of (by rfl) (T.nb _ (by decide)) (by decide +kernel) (pa_cons (pe_slice (sl_list : SlR _ (rSlL K)) (pv 0) po_none (po_some (pe_int))) pa_nil)) (pa_cons (pe_int) (pa_cons (pe_int) pa_nil)))))), ?_⟩
    refine ⟨_, rfl, _, rfl, _, _, rfl, hs, fun q hq => ?_⟩
    refine ⟨_, _, rfl, .inl (SqL.of upd_same), fun c hc => ?_⟩
    refine ⟨(by show 3 ≤ sizeLine; decide), fun p hp => ?_⟩
    have e : cutV (ns.map V.int) none (some 63) = ns.map V.int := by
      have l : (ns.map V.int).length ≤ 63 := by rw [List.length_map]; exact hlen
      have q : cutV (ns.map V.int) none (some 63) = ((ns.map V.int).drop (HT.sIx (ns.map V.int).length 0 none)).take
          (HT.sIx (ns.map V.int).length (ns.map V.int).length (some ((63 : Nat) : Int)) - HT.sIx (ns.map V.int).length 0 none) := rfl
      rw [q, HT.sIx_nat, HT.sIx_none, List.drop_zero]
      exact List.take_of_length_le (by omega)
    have hH : H p = none := (Same.trans (Same.new hq) (Same.new hc)).free hp
    refine k p c _ hH ((Same.new hq).free hc) ((Same.new hq).trans ((Same.new hc).trans (Same.new hp))) ⟨0, 0, upd_same, ?_, ?_, by omega, by omega⟩
    · refine upd_new hp ?_
      rw [upd_same, e]
    · intro z
      rw [z, upd_same] at hp
      cases hp
def spPick : Sp := fun vs H Q _ => ∃ (p c l : Addr) (xs : List V) (ns : List Int) (n : Nat),
  vs = [.ref p, .ref l] ∧ PenAt H p c ns n ∧ ns.length ≤ 63 ∧ H l = some (.lst xs) ∧ l ≠ p ∧ 0 < xs.length ∧
  xs.length < 1000000 ∧ n < 1000000 ∧
  ∀ (v : V) (H' : Hp), v ∈ xs → PenAt H' p c ns (n + 1) → But p H H' → Q v H'
theorem kp_pick (T : Txt K mg) : Kf P w K mg base 2 "_law_pick" ["_law_pen_here", "_law_some"] spPick := by
  refine T.d_pick.okF sc_lpick (fun vs H Q E h => ?_) (fun f cdv A outer s H vs Q E hA hr h => ?_)
  · obtain ⟨p, c, l, xs, ns, n, rfl, _⟩ := h
    rfl
  · obtain ⟨p, c, l, xs, ns, n, rfl, hp, hlen, hl, ne, h0, h1, hn, k⟩ := h
    refine ⟨_, (pss_one (ps_ret (pe_ix (ix_list : IxR _ (rIxL K)) (pv 1) (pe_kf (kp_draw T) hA hr (by rfl) (pa_cons (pv 0) (pa_cons (pe_callB call_len (by rfl) (T.nb _ (by decide)) PySem.boot_len (pa_cons (pv 1) pa_nil)) pa_nil))) (fun _ _ => rfl)))), ?_⟩
    refine ⟨_, rfl, _, rfl, _, rfl, _, _, rfl, len_lst hl, ?_⟩
    refine ⟨p, c, _, ns, n, rfl, hp, hlen, by omega, by omega, hn, fun r H' r0 r1 hp' hb => ?_⟩
    obtain ⟨x, hx, hm⟩ := at_in (xs := xs) r0 (by omega)
    exact ⟨_, _, _, _, rfl, rfl, SqL.of (hb l ne _ hl), hx, k x H' hm hp' hb⟩
end
end KC
namespace L2
open PySem PySem.Spec PyProof.Rows
section
variable {r : Nat → V → Option V} {g : TG} {tt : TT} {te : TE} {vs : List Nat} {σ : St} {H : Hp} {Q : VK}
theorem lc_pureW {J : It} {n : Nat} {G : Hp → Prop} {Y : Nat → Hp → V → Hp → Prop} (w : Walk J n G Y) {xs : List V} {D : Addr} {Qd : Hp → Prop} (hn : xs.length = n)
    (hY : ∀ i H x H', Y i H x H' → H' = H ∧ xs[i]? = some x) (hG : ∀ H', Same H H' → G H') (hz : xs.length ≤ sizeLine) (hD : H D = none)
    (ht : ∀ i x H', xs[i]? = some x → Same H H' → Pure1 r g tt te vs σ i x H') (hQ : Qd (upd H D (.lst (fm r 0 xs)))) :
    ∃ W : Nat → Nat → Hp → Prop, (∃ m, W 0 m (upd H D (.lst []))) ∧ ∀ i m H, W i m H →
      (J.stop i H ∧ Qd H) ∨ (J.go i H ∧ ∃ Nx : Hp → Prop, (∀ H', Nx H' → ∃ m', m' < m ∧ W (i + 1) m' H') ∧ ∀ x H', J.yld i H x H' → g x (wipe σ vs) H' fun σ2 H2 => wipe σ2 vs = wipe σ vs ∧ tt σ2 H2 fun b H3 =>
        if b = true then te σ2 H3 fun y H4 => ∃ acc, H4 D = some (.lst acc) ∧ acc.length < sizeLine ∧ Nx (upd H4 D (.lst (acc ++ [y]))) else Nx H3) := by
  refine lc_it w (fun j H' => H' = upd H D (.lst (fm r 0 (xs.take j)))) rfl (fun i H' _ e => hG _ (by rw [e]; exact Same.new hD)) (fun i x H1 H2 _ e y => ?_) fun H' e => ?_
  · obtain ⟨e2, hx⟩ := hY _ _ _ _ y
    subst e2
    exact pure_turn hx hz (fun _ _ => Iff.rfl) e (ht i x H2 hx (by rw [e]; exact Same.new hD))
  · rw [e, List.take_of_length_le (by omega)]
    exact hQ
/-- [.. for x in a dict], the dict locked -/
theorem tlc_keys {d : Addr} {o : Obj} {kvs : List (Key × V)} {td : TE} (hd : H d = some (.frz o (.dK kvs))) (hz : kvs.length ≤ sizeLine) (htl : ∀ R : VK, R (.ref d) H → td σ H R)
    (ht : ∀ i x H', (kvs.map fun kv => kV kv.1)[i]? = some x → Same H H' → Pure1 r g tt te vs σ i x H')
    (hQ : ∀ D, H D = none → Q (.ref D) (upd H D (.lst (fm r 0 (kvs.map fun kv => kV kv.1))))) : tLc (iKeys td) g tt te vs σ H Q := by
  refine htl _ ⟨d, o, rfl, .inl ⟨kvs, hd, fun D hD => ?_⟩⟩
  exact lc_pureW (walk_keys (d := d) (o := o) (kvs := kvs)) (by rw [List.length_map]) (fun i H x H' ⟨e, k, v, y, ex⟩ => ⟨e, by rw [List.getElem?_map, y, ex]; rfl⟩) (fun H' s => s _ _ hd) (by rw [List.length_map]; exact hz) hD ht (hQ D hD)
end
end L2
namespace KC
open PySem
def abcN : List Nat := [97, 98, 99, 100, 101, 102, 103, 104, 105, 106, 107, 108, 109, 110, 111, 112, 113, 114, 115, 116, 117, 118, 119, 120, 121, 122]
theorem ascii_row : ∀ c : Fin 128, Unicode.isAlpha c.1 = true → (Unicode.isUpper c.1 || Unicode.isTitle c.1) = false → c.1 ∈ abcN := by decide +kernel
theorem abc_row : ∀ c ∈ abcN, (decide (c < 128) && (Unicode.isAlpha c && (Unicode.isLower c && !(Unicode.isUpper c || Unicode.isTitle c)))) = true := by decide +kernel
theorem lower_all {s : Str} (h : s.cps.toList ≠ []) : (Txt.isascii s && (Txt.isalpha s && Txt.islower s)) = s.cps.toList.all (fun c => decide (c ∈ abcN)) := by
  unfold Txt.isascii Txt.isalpha Txt.islower
  rw [← Array.all_toList, ← Array.all_toList, ← Array.any_toList, ← Array.any_toList]
  have hl : decide (s.length > 0) = true := by
    refine decide_eq_true ?_
    unfold Str.length
    rw [← Array.length_toList]
    exact List.length_pos_iff.mpr h
  rw [hl, Bool.true_and]
  revert h
  generalize s.cps.toList = l
  intro h
  rw [Bool.eq_iff_iff]
  simp only [Bool.and_eq_true, List.all_eq_true, List.any_eq_true, decide_eq_true_eq, Bool.not_eq_true', List.any_eq_false]
  constructor
  · rintro ⟨ha, hb, _, hc⟩ c m
    exact ascii_row ⟨c, ha c m⟩ (hb c m) (by simpa using hc c m)
  · intro k
    have r : ∀ c ∈ l, c < 128 ∧ Unicode.isAlpha c = true ∧ Unicode.isLower c = true ∧ (Unicode.isUpper c || Unicode.isTitle c) = false := by
      intro c m
      have := abc_row c (k c m)
      simp only [Bool.and_eq_true, decide_eq_true_eq, Bool.not_eq_true'] at this
      exact this
    refine ⟨fun c m => (r c m).1, fun c m => (r c m).2.1, ?_, fun c m => by simpa using (r c m).2.2.2⟩
    obtain ⟨c, hc⟩ := List.exists_mem_of_ne_nil l h
    exact ⟨c, hc, (r c hc).2.2.1⟩
end KC
namespace KC
open PySem L2
def abc : Str := "abcdefghijklmnopqrstuvwxyz"
/-- letters alone, from lo to hi of them -/
def okL (lo hi : Nat) (s : Str) : Bool := decide (lo ≤ s.length) && (decide (s.length ≤ hi) && s.cps.toList.all fun c => decide (c ∈ abc.cps.toList))
abbrev isName (s : Str) : Bool := okL 1 8 s
abbrev isLet (s : Str) : Bool := okL 1 1 s
abbrev isAns (s : Str) : Bool := okL 0 4 s
section
variable {P : Program} {w : World} {K : PySem.W.Frag} {mg : Str → Option Value} {base : Heap}
def spL (K : PySem.W.Frag) (lo hi : Nat) (v : V) (H : Hp) (Q : VK) : Prop :=
  (∃ s : Str, v = .str s ∧ s.length ≤ 10000 ∧ ∀ H', Same H H' → Q (.bl (okL lo hi s)) H') ∨
  (∃ t, TyOf K H v t ∧ PySem.W.kitOne K t (.type "str") = some false ∧ Q (.bl false) H)
theorem spL.mono {lo hi : Nat} {v : V} {H : Hp} {Q Q' : VK} (h : spL K lo hi v H Q) (m : ∀ u H', Same H H' → Q u H' → Q' u H') : spL K lo hi v H Q' := by
  rcases h with ⟨s, e, z, k⟩ | ⟨t, ty, e, k⟩
  · exact .inl ⟨s, e, z, fun H' s' => m _ _ s' (k H' s')⟩
  · exact .inr ⟨t, ty, e, m _ _ (fun _ _ h => h) k⟩
def spLetters (K : PySem.W.Frag) : Sp := fun vs H Q _ => ∃ (v : V) (lo hi : Nat), vs = [v, .int lo, .int hi] ∧ spL K lo hi v H Q
theorem kp_letters (T : Txt K mg) : Kf P w K mg base 1 "is_letters" ["value", "least", "most"] (spLetters K) := by
  refine T.d_iletters.okF sc_iletters (fun vs H Q E h => ?_) (fun f cdv A outer s H vs Q E hA hr h => ?_)
  · obtain ⟨v, lo, hi, rfl, _⟩ := h
    rfl
  · obtain ⟨v, lo, hi, rfl, h⟩ := h
    refine ⟨_, (pss_cons (ps_if (PW.pt (pw_or (pt_not (pt_val (pe_callB call_isi (by rfl) (T.nb _ (by decide)) (by decide +kernel) (pa_cons (pv 0) (pa_cons (pe_bltn (v := .ty "str") (by rfl) (T.nb _ (by decide)) (by decide +kernel) rfl) pa_nil))))) (pw_or (pt_cmpR op_lt (pe_callB call_len (by rfl) (T.nb _ (by decide)) PySem.boot_len (pa_cons (pv 0) pa_nil)) (pv 1) (nomark _)) (pw_or1 (pt_cmpR op_gt (pe_callB call_len (by rfl) (T.nb _ (by decide)) PySem.boot_len (pa_cons (pv 0) pa_nil)) (pv 2) (nomark _))))))
 (pss_one (ps_ret (pe_bl))) pss_nil)
 (pss_one (ps_ret ((pe_or (pe_cmpR op_eq (pv 0) (pe_str) (nomark _)) (pe_one ((pe_and (pe_m0 PySem.F.slot_str_isascii PySem.F.type_str_isascii mt_isascii (pv 0)) (pe_and (pe_m0 PySem.F.slot_str_isalpha PySem.F.type_str_isalpha mt_isalpha (pv 0)) (pe_one (pe_m0 PySem.F.slot_str_islower PySem.F.type_str_islower mt_islower (pv 0)))))))))))), ?_⟩
    rcases h with ⟨z, rfl, hz, k⟩ | ⟨t, ty, ht, k⟩
    · refine ⟨_, rfl, .str z, _, _, _, true, rfl, .ty "str", .base (.str z), kit_ty (by decide +kernel), _, rfl, iteF ?_⟩
      refine ⟨_, rfl, .str z, _, rfl, ⟨Nat.le_trans hz (by decide), rfl⟩, _, rfl, _, _, rfl, rfl, _, rfl, ?_⟩
      unfold okL at k
      refine ite2 (fun c => ?_) (fun c => ?_)
      · have c' : ¬ lo ≤ z.length := by
          have := of_decide_eq_true c
          omega
        rw [decide_eq_false c'] at k
        exact k H (fun _ _ h => h)
      have c1 : lo ≤ z.length := by
        have : ¬ ((z.length : Int) < lo) := fun q => c (decide_eq_true q)
        omega
      rw [decide_eq_true c1] at k
      refine ⟨_, rfl, .str z, _, rfl, ⟨Nat.le_trans hz (by decide), rfl⟩, _, rfl, _, _, rfl, rfl, _, rfl, ?_⟩
      refine ite2 (fun c => ?_) (fun c => ?_)
      · have c' : ¬ z.length ≤ hi := by
          have := of_decide_eq_true c
          omega
        rw [decide_eq_false c'] at k
        exact k H (fun _ _ h => h)
      have c2 : z.length ≤ hi := by
        have : ¬ ((hi : Int) < z.length) := fun q => c (decide_eq_true q)
        omega
      rw [decide_eq_true c2] at k
      have fin : ∀ b, b = (z.cps.toList.all fun c => decide (c ∈ abc.cps.toList)) → Q (.bl b) H := fun b e => by
        rw [e]
        exact k H (fun _ _ h => h)
      by_cases n : z.cps.toList = []
      · have e0 : z = "" := by
          cases z
          exact congrArg Str.mk (Array.toList_inj.mp n)
        subst e0
        exact ⟨_, rfl, rfl, true, rfl, fin _ (by decide)⟩
      · have e0 : decide (V.str z = V.str (Str.ofString "")) = false := decide_eq_false fun e => n (by rw [V.str.inj e]; rfl)
        refine ⟨_, rfl, rfl, false, congrArg V.bl e0, _, rfl, ?_⟩
        have e1 := lower_all n
        have e2 : (fun c => decide (c ∈ abcN)) = (fun c : Nat => decide (c ∈ abc.cps.toList)) := rfl
        rw [e2] at e1
        refine ⟨⟨z, rfl⟩, z, rfl, rfl, trivial, _, rfl, ?_⟩
        refine ite2 (fun c1 => ?_) (fun c1 => ?_)
        · rw [c1, Bool.true_and] at e1
          refine ⟨_, rfl, ⟨z, rfl⟩, z, rfl, rfl, trivial, _, rfl, ?_⟩
          refine ite2 (fun c2 => ?_) (fun c2 => ?_)
          · rw [c2, Bool.true_and] at e1
            exact ⟨_, rfl, ⟨z, rfl⟩, z, rfl, rfl, trivial, fin _ e1⟩
          · rw [eq_false_of_ne_true c2, Bool.false_and] at e1
            exact fin _ e1
        · rw [eq_false_of_ne_true c1, Bool.false_and] at e1
          exact fin _ e1
    · exact ⟨_, rfl, v, _, _, _, false, rfl, .ty "str", .base ty, ht, _, rfl, iteT k⟩
def spL1 (K : PySem.W.Frag) (lo hi : Nat) : Sp := fun vs H Q _ => ∃ v, vs = [v] ∧ spL K lo hi v H Q
theorem kp_letter (T : Txt K mg) : Kf P w K mg base 2 "is_letter" ["value"] (spL1 K 1 1) := by
  refine T.d_iletter.okF sc_iletter (fun vs H Q E h => ?_) (fun f cdv A outer s H vs Q E hA hr h => ?_)
  · obtain ⟨v, rfl, _⟩ := h
    rfl
  · obtain ⟨v, rfl, h⟩ := h
    exact ⟨_, (pss_one (ps_ret (pe_kf (kp_letters T) hA hr (by rfl) (pa_cons (pv 0) (pa_cons (pe_int) (pa_cons (pe_int) pa_nil)))))), ⟨_, rfl, v, 1, 1, rfl, h⟩⟩
theorem kp_name (T : Txt K mg) : Kf P w K mg base 2 "is_name" ["value"] (spL1 K 1 8) := by
  refine T.d_iname.okF sc_iname (fun vs H Q E h => ?_) (fun f cdv A outer s H vs Q E hA hr h => ?_)
  · obtain ⟨v, rfl, _⟩ := h
    rfl
  · obtain ⟨v, rfl, h⟩ := h
    exact ⟨_, (pss_one (ps_ret (pe_kf (kp_letters T) hA hr (by rfl) (pa_cons (pv 0) (pa_cons (pe_int) (pa_cons (pe_cst (by rfl) T.cs_name) pa_nil)))))), ⟨_, rfl, v, 1, 8, rfl, h⟩⟩
theorem kp_answer (T : Txt K mg) : Kf P w K mg base 2 "is_answer" ["value"] (spL1 K 0 4) := by
  refine T.d_ianswer.okF sc_ianswer (fun vs H Q E h => ?_) (fun f cdv A outer s H vs Q E hA hr h => ?_)
  · obtain ⟨v, rfl, _⟩ := h
    rfl
  · obtain ⟨v, rfl, h⟩ := h
    exact ⟨_, (pss_one (ps_ret (pe_kf (kp_letters T) hA hr (by rfl) (pa_cons (pv 0) (pa_cons (pe_int) (pa_cons (pe_cst (by rfl) T.cs_answer) pa_nil)))))), ⟨_, rfl, v, 0, 4, rfl, h⟩⟩
end
end KC
namespace KC
open PySem L2
abbrev StE := (Str × Str) × (Str × Str)
def stK (e : StE) : List Key := [.inr e.1.1, .inr e.1.2]
/-- the steps of a dict with pairs as keys -/
def StK (K : PySem.W.Frag) (H : Hp) (kvs : List (List Key × V)) (st : List StE) : Prop :=
  kvs.map (·.1) = st.map stK ∧ ∀ (i : Nat) (e : StE), st[i]? = some e → ∃ q, kvs[i]? = some (stK e, .ref q) ∧ SqT K H q [.str e.2.1, .str e.2.2]
theorem StK.same {K : PySem.W.Frag} {H H' : Hp} {kvs : List (List Key × V)} {st : List StE} (h : StK K H kvs st) (s : Same H H') : StK K H' kvs st :=
  ⟨h.1, fun i e he => let ⟨q, a, b⟩ := h.2 i e he; ⟨q, a, b.ext s⟩⟩
theorem StK.len {K : PySem.W.Frag} {H : Hp} {kvs : List (List Key × V)} {st : List StE} (h : StK K H kvs st) : kvs.length = st.length := by
  have := congrArg List.length h.1
  simpa using this
def tlKv (e : Str × Str) : Key × V := (.inr e.1, .str e.2)
theorem sqT_ty {K : PySem.W.Frag} {H : Hp} {a : Addr} {xs : List V} (h : SqT K H a xs) : TyX K H (.ref a) (.type "tuple") := by
  rcases h with (h | ⟨o, h⟩) | ⟨o, _, _, h, c, _⟩
  · exact .base (.tup h)
  · exact .fTuple h
  · exact .kTuple h c
/-- a name that is there once is found -/
theorem valV_at {κ : Type} [DecidableEq κ] : ∀ {kvs : List (κ × V)} {i : Nat} {k : κ} {v : V}, (kvs.map (·.1)).Nodup → kvs[i]? = some (k, v) → valV kvs k = some v
  | [], i, k, v, _, h => by simp at h
  | p :: r, 0, k, v, _, h => by
    simp at h
    subst h
    exact valV_pos rfl
  | p :: r, i + 1, k, v, nd, h => by
    simp at h
    rw [List.map_cons, List.nodup_cons] at nd
    have : ¬ p.1 = k := by
      intro z
      refine nd.1 ?_
      rw [z]
      exact List.mem_map.mpr ⟨(k, v), List.mem_of_getElem? h, rfl⟩
    rw [valV_neg this]
    exact valV_at nd.2 h
section
variable {P : Program} {w : World} {K : PySem.W.Frag} {mg : Str → Option Value} {base : Heap}
def spPair (K : PySem.W.Frag) : Sp := fun vs H Q _ => ∃ (a : Addr) (xs : List V), vs = [.ref a] ∧ SqT K H a xs ∧ Q (.bl (decide (xs.length = 2))) H
theorem kp_pair (T : Txt K mg) : Kf P w K mg base 1 "is_pair" ["value"] (spPair K) := by
  refine T.d_ipair.okF sc_ipair (fun vs H Q E h => ?_) (fun f cdv A outer s H vs Q E hA hr h => ?_)
  · obtain ⟨a, xs, rfl, _⟩ := h
    rfl
  · obtain ⟨a, xs, rfl, hs, k⟩ := h
    refine ⟨_, (pss_one (ps_ret ((pe_and (pe_callB call_isi (by rfl) (T.nb _ (by decide)) (by decide +kernel) (pa_cons (pv 0) (pa_cons (pe_bltn (v := .ty "tuple") (by rfl) (T.nb _ (by decide)) (by decide +kernel) rfl) pa_nil))) (pe_one (pe_cmpR op_eq (pe_callB call_len (by rfl) (T.nb _ (by decide)) PySem.boot_len (pa_cons (pv 0) pa_nil)) (pe_int) (nomark _))))))), ?_⟩
    refine ⟨_, rfl, .ref a, _, _, _, true, rfl, .ty "tuple", sqT_ty hs, kit_ty (by decide +kernel), _, rfl, iteT ?_⟩
    refine ⟨_, rfl, .ref a, _, rfl, .inr ⟨_, hs, rfl⟩, rfl, ?_⟩
    have e : decide (V.int (xs.length : Int) = V.int 2) = decide (xs.length = 2) := by
      rw [decide_eq_decide]
      exact ⟨fun z => by have := V.int.inj z; omega, fun z => by rw [z]; rfl⟩
    show Q (.bl (decide (V.int (xs.length : Int) = V.int 2))) H
    rw [e]
    exact k
def spGoal (K : PySem.W.Frag) : Sp := fun vs H Q _ => ∃ (a : Addr) (x y : Str), vs = [.ref a] ∧ SqT K H a [.str x, .str y] ∧ isAns x = true ∧ isName y = true ∧ x.length ≤ 10000 ∧ y.length ≤ 10000 ∧ ∀ H', Same H H' → Q (.bl true) H'
theorem kp_goal (T : Txt K mg) : Kf P w K mg base 3 "is_goal" ["value"] (spGoal K) := by
  refine T.d_igoal.okF sc_igoal (fun vs H Q E h => ?_) (fun f cdv A outer s H vs Q E hA hr h => ?_)
  · obtain ⟨a, x, y, rfl, _⟩ := h
    rfl
  · obtain ⟨a, x, y, rfl, hs, hx, hy, lx, ly, k⟩ := h
    refine ⟨_, (pss_one (ps_ret ((pe_and (pe_kf (kp_pair T) hA hr (by rfl) (pa_cons (pv 0) pa_nil)) (pe_and (pe_kf (kp_answer T) hA hr (by rfl) (pa_cons (pe_ix (ix_tup : IxR _ (rIxT K)) (pv 0) (pe_int) (fun _ _ => rfl)) pa_nil)) (pe_one (pe_kf (kp_name T) hA hr (by rfl) (pa_cons (pe_ix (ix_tup : IxR _ (rIxT K)) (pv 0) (pe_int) (fun _ _ => rfl)) pa_nil)))))))), ?_⟩
    refine ⟨_, rfl, a, _, rfl, hs, _, rfl, iteT ?_⟩
    refine ⟨_, rfl, _, _, _, _, rfl, rfl, hs, rfl, .str x, rfl, .inl ⟨x, rfl, lx, fun H1 s1 => ?_⟩⟩
    rw [show okL 0 4 x = true from hx]
    refine ⟨_, rfl, iteT ?_⟩
    refine ⟨_, rfl, _, _, _, _, rfl, rfl, hs.ext s1, rfl, .str y, rfl, .inl ⟨y, rfl, ly, fun H2 s2 => ?_⟩⟩
    rw [show okL 1 8 y = true from hy]
    exact k _ (s1.trans s2)
def okStep (e : StE) : Prop := isName e.1.1 = true ∧ isLet e.1.2 = true ∧ isAns e.2.1 = true ∧ isName e.2.2 = true
theorem okL_len {lo hi : Nat} {s : Str} (h : okL lo hi s = true) (hh : hi ≤ 10000) : s.length ≤ 10000 := by
  unfold okL at h
  simp only [Bool.and_eq_true, decide_eq_true_eq] at h
  omega
def spSteps (K : PySem.W.Frag) : Sp := fun vs H Q _ => ∃ (d : Addr) (kvs : List (List Key × V)) (st : List StE), vs = [.ref d] ∧ H d = some (.dT kvs) ∧ StK K H kvs st ∧ (kvs.map (·.1)).Nodup ∧
  (∀ e ∈ st, okStep e) ∧ st.length ≤ 1000 ∧ ∀ H', Same H H' → Q (.bl true) H'
theorem sqT_lock {K : PySem.W.Frag} {H : Hp} {d a : Addr} {xs : List V} {kvs : List (List Key × V)} {o : Obj} (hd : H d = some (.dT kvs)) (h : SqT K H a xs) : SqT K (upd H d (.frz o (.dT kvs))) a xs := by
  have ne : ∀ u, H a = some u → u ≠ .dT kvs → upd H d (.frz o (.dT kvs)) a = some u := fun u e n => upd_oth (fun z => n (by rw [z, hd] at e; exact (Option.some.inj e).symm)) e
  rcases h with (h | ⟨o', h⟩) | h
  · exact .inl (.inl (ne _ h (fun z => by cases z)))
  · exact .inl (.inr ⟨o', ne _ h (fun z => by cases z)⟩)
  · exact .inr h
theorem StK.lock {K : PySem.W.Frag} {H : Hp} {d : Addr} {kvs : List (List Key × V)} {st : List StE} {o : Obj} (hd : H d = some (.dT kvs)) (h : StK K H kvs st) : StK K (upd H d (.frz o (.dT kvs))) kvs st :=
  ⟨h.1, fun i e he => let ⟨q, a, b⟩ := h.2 i e he; ⟨q, a, sqT_lock hd b⟩⟩
theorem unlock_same {H H' : Hp} {d : Addr} {u u' : HO} (hd : H d = some u) (s : Same (upd H d u') H') : Same H (upd H' d u) := by
  intro b o e
  by_cases z : b = d
  · subst z
    rw [hd] at e
    cases e
    exact upd_same
  · exact upd_oth z (s _ _ (upd_oth z e))
theorem kp_steps (T : Txt K mg) : Kf P w K mg base 4 "are_steps" ["steps"] (spSteps K) := by
  refine T.d_asteps.okF sc_asteps (fun vs H Q E h => ?_) (fun f cdv A outer s H vs Q E hA hr h => ?_)
  · obtain ⟨d, kvs, st, rfl, _⟩ := h
    rfl
  · obtain ⟨d, kvs, st, rfl, hd, hst, nd, ok, len, k⟩ := h
    refine ⟨_, (pss_cons (ps_if (pt_not (pt_val (pe_callB call_isi (by rfl) (T.nb _ (by decide)) (by decide +kernel) (pa_cons (pv 0) (pa_cons (pe_bltn (v := .ty "dict") (by rfl) (T.nb _ (by decide)) (by decide +kernel) rfl) pa_nil)))))
 (pss_one (ps_ret (pe_bl))) pss_nil)
 (pss_cons (ps_lock (ps_for PassesOwn.never rfl (pi_keys (pv 0)) (pg_name (i := 1) sc_asteps.nd rfl (Or.inl rfl))
 (pss_one (ps_if (PW.pt (pw_or (pt_not (pt_val (pe_kf (kp_pair T) hA hr (by rfl) (pa_cons (pv 1) pa_nil)))) (pw_or (pt_not (pt_val (pe_kf (kp_name T) hA hr (by rfl) (pa_cons (pe_ix (ix_tup : IxR _ (rIxT K)) (pv 1) (pe_int) (fun _ _ => rfl)) pa_nil)))) (pw_or (pt_not (pt_val (pe_kf (kp_letter T) hA hr (by rfl) (pa_cons (pe_ix (ix_tup : IxR _ (rIxT K)) (pv 1) (pe_int) (fun _ _ => rfl)) pa_nil)))) (pw_or1 (pt_not (pt_val (pe_kf (kp_goal T) hA hr (by rfl) (pa_cons (pe_dget (hu_of hr) (pv 0) (pv 1) (fun _ _ => rfl)) pa_nil)))))))))
 (pss_one (ps_ret (pe_bl))) pss_nil))))
 (pss_one (ps_ret (pe_bl))))), ?_⟩
    refine ⟨_, rfl, .ref d, _, _, _, true, rfl, .ty "dict", .base (.dT hd), kit_ty (by decide +kernel), _, rfl, iteF ?_⟩
    refine ⟨d, _, hd, trivial, fun od => ?_⟩
    have hl : upd H d (.frz od (.dT kvs)) d = some (.frz od (.dT kvs)) := upd_same
    have hst' := hst.lock (o := od) hd
    generalize hHL : upd H d (.frz od (.dT kvs)) = HL at hl hst'
    refine ⟨_, rfl, d, od, rfl, .inr ⟨kvs, hl, ?_⟩⟩
    refine for_it (walk_keysT (d := d) (o := od) (kvs := kvs)) (fun i σ H' => (∃ v, σ = [some (.ref d), v]) ∧ Same HL H') ⟨⟨_, rfl⟩, fun _ _ h => h⟩ (fun i σ H' _ p => p.2 _ _ hl) ?_ ?_
    · rintro i x σ H1 H2 hi ⟨⟨v, rfl⟩, sm⟩ ⟨rfl, k0, v0, q, e0, rfl, hq⟩
      have hi' : i < st.length := by rw [hst.len] at hi; exact hi
      obtain ⟨e, he⟩ : ∃ e, st[i]? = some e := ⟨_, List.getElem?_eq_getElem hi'⟩
      obtain ⟨qv, h1, h2⟩ := (hst'.same sm).2 i e he
      rw [h1] at e0
      obtain ⟨rfl, rfl⟩ := Prod.mk.inj (Option.some.inj e0)
      obtain ⟨o1, o2, o3, o4⟩ := ok e (List.mem_of_getElem? he)
      have hq' : H2 q = some (.tup [.str e.1.1, .str e.1.2]) := hq
      dsimp only [gName]
      refine ⟨_, rfl, q, _, rfl, SqT.of hq', _, rfl, iteF ?_⟩
      refine ⟨_, rfl, _, _, _, _, rfl, rfl, SqT.of hq', rfl, .str e.1.1, rfl, .inl ⟨_, rfl, okL_len o1 (by decide), fun H3 s3 => ?_⟩⟩
      rw [show okL 1 8 e.1.1 = true from o1]
      refine ⟨_, rfl, iteF ?_⟩
      refine ⟨_, rfl, _, _, _, _, rfl, rfl, SqT.of (s3 _ _ hq'), rfl, .str e.1.2, rfl, .inl ⟨_, rfl, okL_len o2 (by decide), fun H4 s4 => ?_⟩⟩
      rw [show okL 1 1 e.1.2 = true from o2]
      refine ⟨_, rfl, iteF ?_⟩
      have s34 := s3.trans s4
      refine ⟨_, rfl, _, rfl, d, .ref qv, rfl, .inr ⟨kvs, stK e, q, .inr ⟨od, (sm.trans s34) _ _ hl⟩, rfl, s34 _ _ hq', (valV_at nd h1).symm⟩, ?_⟩
      refine ⟨qv, _, _, rfl, (h2.ext s34), o3, o4, okL_len o3 (by decide), okL_len o4 (by decide), fun H5 s5 => ⟨_, rfl, iteF ?_⟩⟩
      exact ⟨⟨_, rfl⟩, (sm.trans s34).trans s5⟩
    · rintro σ H' ⟨⟨v, rfl⟩, sm⟩
      refine ⟨sm _ _ hl, ?_⟩
      refine k _ (unlock_same (u' := .frz od (.dT kvs)) hd ?_)
      rw [hHL]
      exact sm
def okTail (e : Str × Str) : Prop := isName e.1 = true ∧ isAns e.2 = true
def spTails (K : PySem.W.Frag) : Sp := fun vs H Q _ => ∃ (d : Addr) (tl : List (Str × Str)), vs = [.ref d] ∧ H d = some (.dK (tl.map tlKv)) ∧ (tl.map (·.1)).Nodup ∧
  (∀ e ∈ tl, okTail e) ∧ tl.length ≤ 1000 ∧ ∀ H', Same H H' → Q (.bl true) H'
theorem tl_nd {tl : List (Str × Str)} (h : (tl.map (·.1)).Nodup) : ((tl.map tlKv).map (·.1)).Nodup := by
  rw [List.map_map]
  have e : ((fun (p : Key × V) => p.1) ∘ tlKv) = (fun s : Str => (Sum.inr s : Key)) ∘ (fun p : Str × Str => p.1) := rfl
  rw [e, ← List.map_map]
  exact List.pairwise_map.mpr (List.Pairwise.imp (fun n z => n (Sum.inr.inj z)) h)
theorem kp_tails (T : Txt K mg) : Kf P w K mg base 3 "are_tails" ["tails"] (spTails K) := by
  refine T.d_atails.okF sc_atails (fun vs H Q E h => ?_) (fun f cdv A outer s H vs Q E hA hr h => ?_)
  · obtain ⟨d, tl, rfl, _⟩ := h
    rfl
  · obtain ⟨d, tl, rfl, hd, nd, ok, len, k⟩ := h
    refine ⟨_, (pss_one (ps_ret ((pe_and (pe_callB call_isi (by rfl) (T.nb _ (by decide)) (by decide +kernel) (pa_cons (pv 0) (pa_cons (pe_bltn (v := .ty "dict") (by rfl) (T.nb _ (by decide)) (by decide +kernel) rfl) pa_nil))) (pe_one (pe_callB (cr_all rfl) (by rfl) (T.nb _ (by decide)) (by decide +kernel) (pa_cons (pe_lock (pe_lc (own := [("name", 1)]) (g := gName 1) (tt := tYes) rfl sc_atails.nd (pi_keys (pv 0)) (blkOk_by (N := n_atails) (sc := defScope s_atails) (by decide +kernel)) (fun _ _ _ _ _ => pg_name (i := 1) sc_atails.nd rfl (Or.inl rfl)) (fun _ _ _ _ _ => pts_nil) (fun _ _ _ _ _ => ((pe_and (pe_kf (kp_name T) hA hr (by rfl) (pa_cons (pv 1) pa_nil)) (pe_one (pe_kf (kp_answer T) hA hr (by rfl) (pa_cons (pe_dget (hu_of hr) (pv 0) (pv 1) (fun _ _ => rfl)) pa_nil)))))))) pa_nil))))))), ?_⟩
    refine ⟨_, rfl, .ref d, _, _, _, true, rfl, .ty "dict", .base (.dK hd), kit_ty (by decide +kernel), _, rfl, iteT ?_⟩
    refine ⟨d, _, hd, trivial, fun od => ?_⟩
    have hl : upd H d (.frz od (.dK (tl.map tlKv))) d = some (.frz od (.dK (tl.map tlKv))) := upd_same
    generalize hHL : upd H d (.frz od (.dK (tl.map tlKv))) = HL at hl
    refine ⟨_, rfl, d, od, rfl, .inl ⟨_, hl, fun D hD => ?_⟩⟩
    refine lc_it (walk_keys (d := d) (o := od) (kvs := tl.map tlKv)) (fun i H' => Same HL H' ∧ H' D = some (.lst (List.replicate i (.bl true)))) ⟨Same.new hD, upd_same⟩ (fun i H' _ p => p.1 _ _ hl) ?_ ?_
    · rintro i x H1 H2 hi ⟨sm, hDl⟩ ⟨rfl, k0, v0, e0, rfl⟩
      rw [List.length_map] at hi
      obtain ⟨e, he⟩ : ∃ e, tl[i]? = some e := ⟨_, List.getElem?_eq_getElem hi⟩
      rw [List.getElem?_map, he] at e0
      obtain ⟨rfl, rfl⟩ := Prod.mk.inj (Option.some.inj e0)
      obtain ⟨o1, o2⟩ := ok e (List.mem_of_getElem? he)
      refine ⟨rfl, yes_run ?_⟩
      refine ⟨_, rfl, .str e.1, rfl, .inl ⟨_, rfl, okL_len o1 (by decide), fun H3 s3 => ?_⟩⟩
      rw [show okL 1 8 e.1 = true from o1]
      refine ⟨_, rfl, iteT ?_⟩
      refine ⟨_, rfl, _, rfl, d, .str e.2, rfl, .inl ⟨_, .inr e.1, .inr ⟨od, (sm.trans s3) _ _ hl⟩, rfl, (valV_at (tl_nd nd) (i := i) ?_).symm⟩, ?_⟩
      · rw [List.getElem?_map, he]
        rfl
      refine ⟨.str e.2, rfl, .inl ⟨_, rfl, okL_len o2 (by decide), fun H4 s4 => ?_⟩⟩
      rw [show okL 0 4 e.2 = true from o2]
      have s34 := s3.trans s4
      refine ⟨_, s34 _ _ hDl, ?_, ?_, ?_⟩
      · rw [List.length_replicate]
        exact Nat.lt_of_lt_of_le (Nat.lt_of_lt_of_le hi len) (by decide)
      · intro b o e
        have := (sm.trans s34) _ _ e
        by_cases z : b = D
        · subst z
          rw [hD] at e
          cases e
        · exact upd_oth z this
      · rw [upd_same, List.replicate_succ']
    · rintro H' ⟨sm, hDl⟩
      rw [List.length_map] at hDl
      refine ⟨sm _ _ hl, D, List.replicate tl.length true, rfl, ?_, ?_⟩
      · rw [List.map_replicate]
        exact SqL.of (upd_oth (fun z => by rw [z, hl] at hD; cases hD) hDl)
      · rw [show (List.replicate tl.length true).all id = true by simp]
        refine k _ (unlock_same (u' := .frz od (.dK (tl.map tlKv))) hd ?_)
        rw [hHL]
        exact sm
end
end KC
namespace KC
open PySem L2 PyProof.Rows
/-- behind the others, if it isn't there -/
def addN (l : List Str) (x : Str) : List Str := if x ∈ l then l else l ++ [x]
def nmKv (s : Str) : Key × V := (.inr s, .bl true)
theorem put_nm (l : List Str) (x : Str) : putK (l.map nmKv) (.inr x) (.bl true) = (addN l x).map nmKv := by
  unfold putK addN
  have e : ((l.map nmKv).any fun kv => decide (kv.1 = (Sum.inr x : Key))) = decide (x ∈ l) := by
    rw [List.any_map, Bool.eq_iff_iff, List.any_eq_true, decide_eq_true_eq]
    constructor
    · rintro ⟨y, hy, z⟩
      have : y = x := Sum.inr.inj (of_decide_eq_true z)
      rw [← this]
      exact hy
    · intro h
      exact ⟨x, h, decide_eq_true rfl⟩
  rw [e]
  by_cases h : x ∈ l
  · rw [if_pos (decide_eq_true h), if_pos h, List.map_map]
    refine List.map_congr_left fun y _ => ?_
    show (if (Sum.inr y : Key) = Sum.inr x then (Sum.inr y, V.bl true) else (Sum.inr y, V.bl true)) = (Sum.inr y, V.bl true)
    split <;> rfl
  · rw [if_neg (by simpa using h), if_neg h, List.map_append]
    rfl
def addS (l : List Str) (e : StE) : List Str := addN (addN l e.1.1) e.2.2
/-- the names, as they are come to -/
def namesOf (start : Str) (st : List StE) (tl : List (Str × Str)) : List Str := (tl.map (·.1)).foldl addN (st.foldl addS [start])
def lettersOf (st : List StE) : List Str := (st.map fun e => e.1.2).foldl addN []
theorem addN_len (l : List Str) (x : Str) : (addN l x).length ≤ l.length + 1 := by
  unfold addN
  split
  · omega
  · simp
theorem foldN_len : ∀ (xs : List Str) (l : List Str), (xs.foldl addN l).length ≤ l.length + xs.length
  | [], l => by simp
  | x :: xs, l => by
    rw [List.foldl_cons, List.length_cons]
    have := foldN_len xs (addN l x)
    have := addN_len l x
    omega
theorem foldS_len : ∀ (xs : List StE) (l : List Str), (xs.foldl addS l).length ≤ l.length + 2 * xs.length
  | [], l => by simp
  | x :: xs, l => by
    rw [List.foldl_cons, List.length_cons]
    have := foldS_len xs (addS l x)
    have h1 := addN_len (addN l x.1.1) x.2.2
    have h2 := addN_len l x.1.1
    unfold addS at *
    omega
theorem take_fold {α : Type} {xs : List α} {i : Nat} {x : α} (h : xs[i]? = some x) {β : Type} (f : β → α → β) (b : β) : (xs.take (i + 1)).foldl f b = f ((xs.take i).foldl f b) x := by
  rw [List.take_add_one, h, List.foldl_append]
  rfl
section
variable {P : Program} {w : World} {K : PySem.W.Frag} {mg : Str → Option Value} {base : Heap}
/-- an ascending tuple of these -/
def TupOf (H : Hp) (Q : VK) (xs : List Str) : Prop := ∀ (ys : List Str) (p : Addr) (H' : Hp), ys.Perm xs → sortedS ys = true → H p = none → Same H H' → H' p = some (.tup (ys.map V.str)) → Q (.ref p) H'
def spSnames (K : PySem.W.Frag) : Sp := fun vs H Q _ => ∃ (s : Str) (d t : Addr) (kvs : List (List Key × V)) (st : List StE) (tl : List (Str × Str)), vs = [.str s, .ref d, .ref t] ∧
  H d = some (.dT kvs) ∧ StK K H kvs st ∧ (kvs.map (·.1)).Nodup ∧ st.length ≤ 1000 ∧ H t = some (.dK (tl.map tlKv)) ∧ tl.length ≤ 1000 ∧ (namesOf s st tl).length < 64 ∧ TupOf H Q (namesOf s st tl)
theorem kp_snames (T : Txt K mg) : Kf P w K mg base 1 "state_names" ["start", "steps", "tails"] (spSnames K) := by
  refine T.d_snames.okF sc_snames (fun vs H Q E h => ?_) (fun f cdv A outer s H vs Q E hA hr h => ?_)
  · obtain ⟨s, d, t, kvs, st, tl, rfl, _⟩ := h
    rfl
  · obtain ⟨s, d, t, kvs, st, tl, rfl, hd, hst, nd, len, ht, tlen, n64, k⟩ := h
    refine ⟨_, (pss_cons (ps_set (i := 3) sc_snames.nd rfl (Or.inl rfl) (pe_disp (pps_cons (pv 0) (pe_bl) pps_nil) (by rfl) (by rfl) (fun z => by cases z) (by decide)))
 (pss_cons (ps_lock (ps_for PassesOwn.never rfl (pi_keys (pv 1)) (pg_tup rfl (pgs_cons (pg_name (i := 4) sc_snames.nd rfl (Or.inl rfl)) (pgs_cons (pg_name (i := 5) sc_snames.nd rfl (Or.inl rfl)) pgs_nil)))
 (pss_cons (ps_asg (pe_dget (hu_of hr) (pv 1) (pe_tup (pa_cons (pv 4) (pa_cons (pv 5) pa_nil))) (fun _ _ => rfl)) (pg_tup rfl (pgs_cons (pg_name (i := 6) sc_snames.nd rfl (Or.inl rfl)) (pgs_cons (pg_name (i := 7) sc_snames.nd rfl (Or.inl rfl)) pgs_nil))))
 (pss_cons (ps_asg (pe_bl) (pg_sub (pv 3) (pv 4) (set_dict (hu_of hr))))
 (pss_one (ps_asg (pe_bl) (pg_sub (pv 3) (pv 7) (set_dict (hu_of hr)))))))))
 (pss_cons (ps_lock (ps_for PassesOwn.never rfl (pi_keys (pv 2)) (pg_name (i := 4) sc_snames.nd rfl (Or.inl rfl))
 (pss_one (ps_asg (pe_bl) (pg_sub (pv 3) (pv 4) (set_dict (hu_of hr)))))))
 (pss_one (ps_ret (pe_callTy call_tuple_of (by rfl) (T.nb _ (by decide)) (by decide +kernel) (pa_cons (pe_callB cr_sortedS (by rfl) (T.nb _ (by decide)) (by decide +kernel) (pa_cons (pe_lock (pe_lc (own := [("name", 8)]) (g := gName 8) (tt := tYes) rfl sc_snames.nd (pi_keys (pv 3)) (blkOk_by (N := n_snames) (sc := defScope s_snames) (by decide +kernel)) (fun _ _ _ _ _ => pg_name (i := 8) sc_snames.nd rfl (Or.inl rfl)) (fun _ _ _ _ _ => pts_nil) (fun _ _ _ _ _ => (pe_callTy SkE.call_str_str (by rfl) (T.nb _ (by decide)) (by decide +kernel) (pa_cons (pv 8) pa_nil))))) pa_nil)) pa_nil))))))), ?_⟩
    refine fun nm hnm => ?_
    refine ⟨_, rfl, upd_same, [nmKv s], rfl, (by show 1 ≤ 15; decide), ?_⟩
    have e0 : upd (upd H nm (.dK [])) nm (.dK (mergeK [] [nmKv s])) = upd H nm (.dK ([s].map nmKv)) := upd_upd
    rw [e0]
    have ndm : nm ≠ d := fun z => by rw [z, hd] at hnm; cases hnm
    have ntm : nm ≠ t := fun z => by rw [z, ht] at hnm; cases hnm
    have dt : d ≠ t := fun z => by rw [z, ht] at hd; cases hd
    dsimp only [gName, tSeq, tAsg]
    have hd1 : upd H nm (.dK ([s].map nmKv)) d = some (.dT kvs) := upd_new hnm hd
    refine ⟨d, _, hd1, trivial, fun od => ?_⟩
    have hst1 : StK K (upd (upd H nm (.dK ([s].map nmKv))) d (.frz od (.dT kvs))) kvs st := (hst.same (Same.new hnm)).lock hd1
    have sm0 : Same H (upd (upd (upd H nm (.dK ([s].map nmKv))) d (.frz od (.dT kvs))) d (.dT kvs)) := (Same.new hnm).trans (unlock_same (u' := .frz od (.dT kvs)) hd1 (fun _ _ h => h))
    have hl : upd (upd H nm (.dK ([s].map nmKv))) d (.frz od (.dT kvs)) d = some (.frz od (.dT kvs)) := upd_same
    have hnm1 : upd (upd H nm (.dK ([s].map nmKv))) d (.frz od (.dT kvs)) nm = some (.dK ([s].map nmKv)) := upd_oth ndm upd_same
    have ht1 : upd (upd H nm (.dK ([s].map nmKv))) d (.frz od (.dT kvs)) t = some (.dK (tl.map tlKv)) := upd_oth (Ne.symm dt) (upd_new hnm ht)
    have old : ∀ b o, b ≠ d → H b = some o → upd (upd H nm (.dK ([s].map nmKv))) d (.frz od (.dT kvs)) b = some o := fun b o n e => upd_oth n (upd_new hnm e)
    generalize upd (upd H nm (.dK ([s].map nmKv))) d (.frz od (.dT kvs)) = HL at hst1 hl hnm1 ht1 old sm0
    refine ⟨_, rfl, d, od, rfl, .inr ⟨kvs, hl, ?_⟩⟩
    have nkey : ∀ {H' : Hp} {q : Addr} {kvs' : List (Key × V)}, H' nm = some (.dK kvs') → H' q = none → q ≠ nm := fun h1 h2 z => by rw [z, h1] at h2; cases h2
    refine for_it (walk_keysT (d := d) (o := od) (kvs := kvs)) (fun i σ H' => (∃ a b c e, σ = [some (.str s), some (.ref d), some (.ref t), some (.ref nm), a, b, c, e, none]) ∧
      But nm HL H' ∧ H' nm = some (.dK (((st.take i).foldl addS [s]).map nmKv))) ⟨⟨_, _, _, _, rfl⟩, fun _ _ _ h => h, hnm1⟩ (fun i σ H' _ p => p.2.1 d (Ne.symm ndm) _ hl) ?_ ?_
    · rintro i x σ H1 H2 hi ⟨⟨v4, v5, v6, v7, rfl⟩, bu, hN⟩ ⟨rfl, k0, v0, q, e0, rfl, hq⟩
      have hi' : i < st.length := by rw [hst.len] at hi; exact hi
      obtain ⟨e, he⟩ : ∃ e, st[i]? = some e := ⟨_, List.getElem?_eq_getElem hi'⟩
      obtain ⟨qv, h1, h2⟩ := hst1.2 i e he
      rw [h1] at e0
      obtain ⟨rfl, rfl⟩ := Prod.mk.inj (Option.some.inj e0)
      have hq' : H2 q = some (.tup [.str e.1.1, .str e.1.2]) := hq
      have qn : qv ≠ nm ∨ True := .inr trivial
      refine ⟨q, _, rfl, SqT.of hq', rfl, _, _, rfl, _, _, rfl, rfl, ?_⟩
      refine ⟨_, rfl, _, rfl, _, rfl, (by show 2 ≤ sizeLine; decide), fun kt hkt => ?_⟩
      have ktn := nkey hN hkt
      have h2' : SqT K (upd H2 kt (.tup [.str e.1.1, .str e.1.2])) qv [.str e.2.1, .str e.2.2] := by
        rcases h2 with (h2 | ⟨o', h2⟩) | h2
        · exact .inl (.inl (upd_new hkt (bu _ (fun z => by rw [z, hnm1] at h2; cases h2) _ h2)))
        · exact .inl (.inr ⟨o', upd_new hkt (bu _ (fun z => by rw [z, hnm1] at h2; cases h2) _ h2)⟩)
        · exact .inr h2
      refine ⟨d, .ref qv, rfl, .inr ⟨kvs, stK e, kt, .inr ⟨od, upd_new hkt (bu d (Ne.symm ndm) _ hl)⟩, rfl, upd_same, (valV_at nd h1).symm⟩, ?_⟩
      refine ⟨qv, _, rfl, h2', rfl, _, _, rfl, _, _, rfl, rfl, ?_⟩
      have hN1 : upd H2 kt (.tup [.str e.1.1, .str e.1.2]) nm = some (.dK (((st.take i).foldl addS [s]).map nmKv)) := upd_new hkt hN
      have bl : ((st.take i).foldl addS [s]).length ≤ 2001 := by
        have := foldS_len (st.take i) [s]
        rw [List.length_take] at this
        simp only [List.length_cons, List.length_nil] at this
        omega
      have bl2 : ∀ x, (addN ((st.take i).foldl addS [s]) x).length ≤ 2002 := fun x => Nat.le_trans (addN_len _ _) (by omega)
      refine ⟨_, rfl, _, rfl, nm, _, rfl, .inl ⟨_, .inr e.1.1, hN1, rfl, ?_, rfl⟩, ?_⟩
      · rw [List.length_map]
        exact Nat.lt_of_le_of_lt bl (by decide)
      rw [put_nm]
      refine ⟨_, rfl, _, rfl, nm, _, rfl, .inl ⟨_, .inr e.2.2, upd_same, rfl, ?_, rfl⟩, ?_⟩
      · rw [List.length_map]
        exact Nat.lt_of_le_of_lt (bl2 _) (by decide)
      rw [put_nm, upd_upd]
      refine ⟨⟨_, _, _, _, rfl⟩, fun b hb o eb => upd_oth hb (upd_new hkt (bu b hb o eb)), ?_⟩
      rw [upd_same, take_fold he]
      rfl
    · rintro σ H' ⟨⟨v4, v5, v6, v7, rfl⟩, bu, hN⟩
      refine ⟨bu d (Ne.symm ndm) _ hl, ?_⟩
      rw [List.take_of_length_le (Nat.le_of_eq hst.len.symm)] at hN
      have sm2 : But nm (upd HL d (.dT kvs)) (upd H' d (.dT kvs)) := by
        intro b hb o e
        by_cases z : b = d
        · rw [z, upd_same] at e
          rw [z, upd_same]
          exact e
        · exact upd_oth z (bu b hb o (by rw [upd_ne z] at e; exact e))
      have sm3 : ∀ b o, H b = some o → upd H' d (.dT kvs) b = some o := fun b o e => sm2 b (fun z => by rw [z, hnm] at e; cases e) o (sm0 _ _ e)
      have hN2 : upd H' d (.dT kvs) nm = some (.dK ((st.foldl addS [s]).map nmKv)) := upd_oth ndm hN
      have hdn : ∀ x, upd H' d (.dT kvs) x = none → H x = none := fun x e => by
        cases h : H x with
        | none => rfl
        | some o => rw [sm3 x o h] at e; cases e
      generalize upd H' d (.dT kvs) = G at sm3 hN2 hdn
      clear sm2 bu hN
      -- the tails
      have ht2 := sm3 _ _ ht
      dsimp only [tSeq]
      refine ⟨t, _, ht2, trivial, fun ot => ?_⟩
      have hl2 : upd G t (.frz ot (.dK (tl.map tlKv))) t = some (.frz ot (.dK (tl.map tlKv))) := upd_same
      have hN3 : upd G t (.frz ot (.dK (tl.map tlKv))) nm = some (.dK ((st.foldl addS [s]).map nmKv)) := upd_oth ntm hN2
      have hx : Same H (upd (upd G t (.frz ot (.dK (tl.map tlKv)))) t (.dK (tl.map tlKv))) := Same.trans sm3 (unlock_same (u' := .frz ot (.dK (tl.map tlKv))) ht2 (fun _ _ h => h))
      generalize upd G t (.frz ot (.dK (tl.map tlKv))) = GL at hl2 hN3 hx
      refine ⟨_, rfl, t, ot, rfl, .inl ⟨_, hl2, ?_⟩⟩
      refine for_it (walk_keys (d := t) (o := ot) (kvs := tl.map tlKv)) (fun i σ H' => (∃ a b c e, σ = [some (.str s), some (.ref d), some (.ref t), some (.ref nm), a, b, c, e, none]) ∧
        But nm GL H' ∧ H' nm = some (.dK ((((tl.take i).map (·.1)).foldl addN (st.foldl addS [s])).map nmKv))) ⟨⟨_, _, _, _, rfl⟩, fun _ _ _ h => h, hN3⟩ (fun i σ H' _ p => p.2.1 t (Ne.symm ntm) _ hl2) ?_ ?_
      · rintro i x σ H1 H2 hi ⟨⟨v4, v5, v6, v7, rfl⟩, bu, hN⟩ ⟨rfl, k0, v0, e0, rfl⟩
        rw [List.length_map] at hi
        obtain ⟨e, he⟩ : ∃ e, tl[i]? = some e := ⟨_, List.getElem?_eq_getElem hi⟩
        rw [List.getElem?_map, he] at e0
        obtain ⟨rfl, rfl⟩ := Prod.mk.inj (Option.some.inj e0)
        have bl : (((tl.take i).map (·.1)).foldl addN (st.foldl addS [s])).length ≤ 3001 := by
          have h1 := foldS_len st [s]
          have h2 := foldN_len ((tl.take i).map (·.1)) (st.foldl addS [s])
          rw [List.length_map, List.length_take] at h2
          simp only [List.length_cons, List.length_nil] at h1
          omega
        dsimp only [gName]
        refine ⟨_, rfl, _, rfl, nm, _, rfl, .inl ⟨_, .inr e.1, hN, rfl, ?_, rfl⟩, ?_⟩
        · rw [List.length_map]
          exact Nat.lt_of_le_of_lt bl (by decide)
        rw [put_nm]
        refine ⟨⟨_, _, _, _, rfl⟩, fun b hb o eb => upd_oth hb (bu b hb o eb), ?_⟩
        have he' : (tl.map (·.1))[i]? = some e.1 := by rw [List.getElem?_map, he]; rfl
        rw [upd_same, List.map_take, List.map_take, take_fold he']
      · rintro σ H' ⟨⟨v4, v5, v6, v7, rfl⟩, bu, hN⟩
        rw [List.length_map, List.take_of_length_le (Nat.le_refl _)] at hN
        refine ⟨bu t (Ne.symm ntm) _ hl2, ?_⟩
        have hN4 : upd H' t (.dK (tl.map tlKv)) nm = some (.dK ((namesOf s st tl).map nmKv)) := upd_oth ntm hN
        have sm4 : Same H (upd H' t (.dK (tl.map tlKv))) := by
          intro b o e
          have bn : b ≠ nm := fun z => by rw [z, hnm] at e; cases e
          by_cases z : b = t
          · subst z
            rw [ht] at e
            cases e
            exact upd_same
          · have := hx _ _ e
            rw [upd_ne z] at this
            exact upd_oth z (bu b bn o this)
        generalize upd H' t (.dK (tl.map tlKv)) = F at hN4 sm4
        -- sorted
        dsimp only [tRet, tCB, tCons]
        refine ⟨nm, _, hN4, trivial, fun on => ?_⟩
        have hl3 : upd F nm (.frz on (.dK ((namesOf s st tl).map nmKv))) nm = some (.frz on (.dK ((namesOf s st tl).map nmKv))) := upd_same
        refine tlc_keys (d := nm) (o := on) (kvs := (namesOf s st tl).map nmKv) (r := fun _ x => some x) hl3 (by rw [List.length_map]; exact Nat.le_of_lt (Nat.lt_of_lt_of_le n64 (by decide))) (fun R h => ⟨_, rfl, h⟩) ?_ ?_
        · intro i x H' hx _ Ky Kn hy _
          rw [List.map_map, List.getElem?_map] at hx
          cases en : (namesOf s st tl)[i]? with
          | none => rw [en] at hx; cases hx
          | some z =>
            rw [en] at hx
            obtain rfl : V.str z = x := Option.some.inj hx
            exact ⟨rfl, yes_run ⟨_, rfl, z, rfl, hy _ rfl⟩⟩
        · intro D hD
          have ef : fm (fun _ x => some x) 0 (((namesOf s st tl).map nmKv).map fun kv => kV kv.1) = (namesOf s st tl).map V.str := by
            rw [L2.fm_map (fun x => x) _ (fun _ _ => rfl), List.map_id', List.map_map]
            rfl
          rw [ef]
          have nD : nm ≠ D := fun z => by rw [← z, hl3] at hD; cases hD
          refine ⟨upd_oth nD hl3, ?_⟩
          have sF := unlock_same hN4 (Same.new (u := .lst ((namesOf s st tl).map V.str)) hD)
          have hDF : upd (upd (upd F nm (.frz on (.dK ((namesOf s st tl).map nmKv)))) D (.lst ((namesOf s st tl).map V.str))) nm (.dK ((namesOf s st tl).map nmKv)) D = some (.lst ((namesOf s st tl).map V.str)) := upd_oth (Ne.symm nD) upd_same
          generalize upd (upd (upd F nm (.frz on (.dK ((namesOf s st tl).map nmKv)))) D (.lst ((namesOf s st tl).map V.str))) nm (.dK ((namesOf s st tl).map nmKv)) = FF at sF hDF
          refine ⟨D, _, rfl, SqL.of hDF, n64, fun ys p hperm hsort hp => ?_⟩
          refine ⟨p, _, rfl, .inl ⟨SqL.of upd_same, fun l hl => ?_⟩⟩
          have sAll : Same H (upd (upd FF p (.lst (ys.map V.str))) l (.tup (ys.map V.str))) := (sm4.trans sF).trans ((Same.new hp).trans (Same.new hl))
          refine k ys l _ hperm hsort ?_ sAll upd_same
          have := ((sm4.trans sF).trans (Same.new (u := .lst (ys.map V.str)) hp)).free hl
          exact this
end
end KC
namespace L2
open PySem PySem.Spec PyProof.Rows
/-- one entry of such a comprehension is put in -/
theorem put_tupKey {X : Cx} {pn : List (Addr × Obj)} {σ : St} {H : Hp} {s : Shared} {E : Value → Shared → Prop}
    {D b : Addr} {kvs : List (List Key × V)} {k : List Key} {v : V} {r : Value} {Q : Unit → Shared → Prop}
    (hu : X.A.units + 2 < cLine) (J : Inv X pn σ H s) (eD : H D = some (.dT kvs)) (small : kvs.length < sizeLine)
    (eb : H b = some (.tup (k.map kV))) (rv : RelV v r)
    (h : ∀ s', Inv X pn σ (upd H D (.dT (putK kvs k v))) s' → Q () s') :
    wpAny (model X.prog X.w) X.A (dictSet D (.ref b) r) Q E s := by
  obtain ⟨zl, notMods, xs, kt, dd⟩ := dt_of J.hok eD
  have hx : xs.length ≤ sizeLine := (Paired.length kt) ▸ zl
  have hp : (putK kvs k v).length ≤ sizeLine := Nat.le_trans (length_putK kvs k v) small
  refine wpAny_dictSet_heap (hsz := hx) (show X.A.units < cLine from Nat.lt_of_le_of_lt (Nat.le_add_right _ _) hu) (key_of J.hok eb) dd fun h' new only => h _ ?_
  obtain ⟨o, ents, ep, at_, c2, c3, c4, _, c5⟩ := new
  refine d_write J (by rw [eD]; trivial) only ⟨o, at_⟩ ⟨hp, notMods, _, (kt.put k eb rv).keeps fun c ys ec => ?_, o, ents, ep, at_, c2, c3, c4, c5⟩
  exact upd_oth (fun z => by rw [z, eD] at ec; cases ec) ec
section
variable {X : Cx}
/-- {k: v for target in iter if ..}, keys tuples of ints and texts: D the new dict -/
def tDcT (wi : TI) (g : TG) (tt : TT) (tk tv : TE) (vs : List Nat) : TE := fun σ H Q =>
  wi σ H fun J H1 => ∀ D, H1 D = none → ∃ W : Nat → Nat → Hp → Prop, (∃ m, W 0 m (upd H1 D (.dT []))) ∧
    ∀ i m H, W i m H → (J.stop i H ∧ Q (.ref D) H) ∨
      (J.go i H ∧ ∃ Nx : Hp → Prop, (∀ H', Nx H' → ∃ m', m' < m ∧ W (i + 1) m' H') ∧
        ∀ x H', J.yld i H x H' → g x (wipe σ vs) H' fun σ2 H2 => wipe σ2 vs = wipe σ vs ∧ tt σ2 H2 fun ok H3 =>
          if ok = true then tk σ2 H3 fun y H4 => tv σ2 H4 fun z H5 => ∃ kvs k b, y = .ref b ∧ H5 b = some (.tup (k.map kV)) ∧
            H5 D = some (.dT kvs) ∧ kvs.length < sizeLine ∧ Nx (upd H5 D (.dT (putK kvs k z))) else Nx H3)
theorem has_free {scope : Scope} {own : List (Str × Nat)} {pn : List (Addr × Obj)} {σ : St} {H : Hp} {s : Shared}
    (J : Inv X pn σ H s) (ok : BlkOk X.N X.env.scope scope own) : ∀ y ∈ scope.names, y.2 = .free → ∃ c, X.env.cells.lookup y.1 = some c :=
  fun y hy e => (ok.free y hy e).elim (fun k => J.ok.has _ (.inl k)) fun k => J.ok.has _ (.inr k)
theorem pe_dcT {kx vx tg iter : Expr} {ifs : List Expr} {scope : Scope} {own : List (Str × Nat)} {pos : Pos} {wi : TI} {g : TG} {tt : TT}
    {tk tv : TE} (hu : X.A.units + 2 < cLine) (hc : X.calm = true) (hN : X.N.Nodup) (hi : PI X tg iter wi) (ok : BlkOk X.N X.env.scope scope own)
    (hg : ∀ (s : Shared) (H : Hp) (C : Addr) (cl : List (Str × Addr)) (fp : List Addr),
      PG (X.blk s H scope (compEnvC scope cl C X.env) fp) tg g)
    (ht : ∀ (s : Shared) (H : Hp) (C : Addr) (cl : List (Str × Addr)) (fp : List Addr),
      PTs (X.blk s H scope (compEnvC scope cl C X.env) fp) ifs tt)
    (hk : ∀ (s : Shared) (H : Hp) (C : Addr) (cl : List (Str × Addr)) (fp : List Addr),
      PE (X.blk s H scope (compEnvC scope cl C X.env) fp) kx tk)
    (he : ∀ (s : Shared) (H : Hp) (C : Addr) (cl : List (Str × Addr)) (fp : List Addr),
      PE (X.blk s H scope (compEnvC scope cl C X.env) fp) vx tv)
    (hs : ∀ x, foldedSetIterable iter X.env x = pure x := by intro _; rfl) :
    PE X (.DictComp kx vx [⟨tg, iter, ifs, 0⟩] scope pos) (tDcT wi g tt tk tv (own.map (·.2))) := by
  refine ⟨fun pn sA σ HA Q J0 want => ?_⟩
  rw [arm_eval_DictComp]
  refine wpAny_comprehension_free (use := none) rfl hs (closure_ok (has_free J0 ok)) ok.kind (fun y hy e => by rw [ok.uniq y hy, e])
    (thn (hi.run pn sA σ HA _ J0 want) fun xv sB hx => thn hx fun itv sC hC => ?_)
  obtain ⟨it, fp, tn, J, HC, e, JC, T, stC, fC, q⟩ := hC
  subst e
  refine wpAny_newObj_type (newEnv_comp ?_)
  generalize eqD : sC.heap.objs.size = D
  have freeD : HC D = none := JC.hok.fresh (Nat.le_of_eq eqD)
  obtain ⟨W, ⟨m0, w0⟩, turn⟩ := q D freeD
  let emp : Obj := { cls := .type "dict", data := .dict #[] }
  generalize eqs : ({ sC with heap := sC.heap.push emp } : Shared) = sD
  have hpD : sD.heap = sC.heap.push emp := by rw [← eqs]
  have JD : Inv X pn σ (upd HC D (.dT [])) sD := by
    rw [← eqs]
    refine JC.laid (t' := sC.toks) (fun b o eb => Heap.get?_push_of_some _ eb) (Nat.le_of_eq eqD) ?_
    rw [← eqD]
    exact dt_empty sC.heap JC.big
  have below : ∀ b ∈ fp, b < sC.heap.objs.size := fun b hb =>
    let ⟨o, eb, _⟩ := T.obj _ _ stC b hb
    Heap.lt_size eb
  have fD : ∀ b ∈ fp, FpOk X pn (upd HC D (.dT [])) b ∧ b < sD.heap.objs.size := fun b hb => by
    have lt := below b hb
    refine ⟨⟨?_, (fC b hb).2⟩, by rw [hpD, Heap.size_push]; exact Nat.lt_succ_of_lt lt⟩
    rw [upd_ne (by rw [← eqD]; exact Nat.ne_of_lt lt)]
    exact (fC b hb).1
  have stD : tn 0 sD.heap := T.keep _ _ _ stC fun b _ o eb => by
    rw [hpD]
    exact Heap.get?_push_of_some _ eb
  have JE := block_start JD ok hN fD
  let cl := cellsFrom (sD.heap.objs.size + 1) scope.names (cloFrom X.env.cells scope.names [])
  have pg := hg sD (upd HC D (.dT [])) sD.heap.objs.size cl fp
  have pt := ht sD (upd HC D (.dT [])) sD.heap.objs.size cl fp
  have pk := hk sD (upd HC D (.dT [])) sD.heap.objs.size cl fp
  have pv := he sD (upd HC D (.dT [])) sD.heap.objs.size cl fp
  show codeAny _ _ (.compStart (.DictComp kx vx [⟨tg, iter, ifs, 0⟩] scope pos) 0 (.ref it) (.ref D) (compEnvC scope cl sD.heap.objs.size X.env))
    (compPost (model X.prog X.w) X.A X.xe none (EP X pn σ Q) (.ref D) sD.heap.objs.size)
    { sD with heap := pushCells (sD.heap.push emp) scope.names }
  have noFp : ∀ b ∈ fp, (upd HC D (.dT [])) b = none := fun b hb => (fD b hb).1.1
  generalize eqce : compEnvC scope cl sD.heap.objs.size X.env = ce at JE pg pt pk pv ⊢
  have ceL : ce.locals = sD.heap.objs.size := by subst eqce; rfl
  generalize upd HC D (.dT []) = HD at JD JE pg pt pk pv w0 noFp fD
  generalize eqE : ({ sD with heap := pushCells (sD.heap.push emp) scope.names } : Shared) = sE at JE ⊢
  have stE : tn 0 sE.heap := T.keep _ _ _ stD fun b _ o eb => by
    rw [← eqE]
    exact pushCells_keeps _ _ _ _ (Heap.get?_push_of_some _ eb)
  have still : ∀ {σ' : St} {H' : Hp} {s' : Shared}, Inv (X.blk sD HD scope ce fp) [] σ' H' s' → (∀ b ∈ fp, H' b = none) →
      ∀ b ∈ fp, FpOk (X.blk sD HD scope ce fp) [] H' b := fun {σ' H' s'} J' none_ b hb =>
    ⟨none_ b hb, (J'.ok.exf b hb).1, J'.ok.exfs b hb, .inl hb, fun x c ec => (J'.ok.exf b hb).2 x c ec, fun p hp => by simp at hp⟩
  have whole : codeAny (model X.prog X.w) X.A (.compLoop (.DictComp kx vx [⟨tg, iter, ifs, 0⟩] scope pos) 0 (.ref it) (.ref D) ce)
      (compPost (model X.prog X.w) X.A X.xe none (EP X pn σ Q) (.ref D) sD.heap.objs.size) sE := by
    refine compLoop_anyD (fun n s' => ∃ i H', Inv (X.blk sD HD scope ce fp) [] (wipe σ (own.map (·.2))) H' s' ∧ tn i s'.heap ∧
      (∀ b ∈ fp, H' b = none) ∧ W i n H') ?_ m0 ⟨0, HD, JE, stE, noFp, w0⟩
    rintro n s5 ⟨i, H5, J5, st5, n5, w5⟩
    rcases turn i n H5 w5 with ⟨stop, done⟩ | ⟨go, Nx, less, step⟩
    · have td := T.done (X.blk sD HD scope ce fp) rfl rfl rfl hc i [] s5 _ H5 (fun _ _ => False) J5 (still J5 n5) st5 stop
      refine thnF td fun r s6 ⟨none_, J6⟩ => ?_
      subst none_
      have J7 : Inv X pn σ H5 s6 := JD.call' (ch := fp) J6.os J6.base J6.hok J6.bare fun b hb =>
        ⟨(fD b hb).1.2.2.2.1, (fD b hb).1.2.1, (fD b hb).1.2.2.2.2.1, (fD b hb).1.2.2.2.2.2⟩
      have freeC : H5 sD.heap.objs.size = none := ceL ▸ (show H5 ce.locals = none from J6.free)
      obtain ⟨mm, ns, _⟩ := J6.loc
      have ns' : s6.heap.Ns sD.heap.objs.size mm := ceL ▸ (show s6.heap.Ns ce.locals mm from ns)
      obtain ⟨f0, f1, f2, f3, f4, f5⟩ := JD.fpOk (H' := H5) (Nat.le_refl _) freeC
      exact ⟨mm, ns', fun h'' sb => ⟨.ref D, H5, J7.turned (t' := s6.toks) (fun b o hb eb => (sb.2 b hb).trans eb) f0 f1 f3 f4 f5, rfl, done⟩⟩
    · have ti := T.item (X.blk sD HD scope ce fp) rfl rfl rfl hc i [] s5 _ H5 (fun _ _ => False) J5 (still J5 n5) st5 go
      refine thnF ti fun r s6 ⟨u, some_, h6⟩ => ?_
      subst some_
      refine thnF h6 fun _ s7 ⟨x, H7, J7, r7, y7, st7, n7⟩ => ?_
      have J7' := J7.pinned (still J7 n7) (T.obj _ _ st7)
      refine thnF (pg.run _ s7 _ H7 x u _ J7' r7 (step x H7 y7)) fun _ s8 ⟨σ8, H8, J8, same8, q8⟩ => ?_
      refine thnF (pt.run _ s8 σ8 H8 _ J8 q8) fun yes s9 ⟨H9, J9, q9⟩ => ?_
      have after : ∀ {s' : Shared} {H' : Hp}, Inv (X.blk sD HD scope ce fp) ([] ++ pinsAt fp s7.heap) σ8 H' s' → Nx H' →
          ∃ m, m < n ∧ ∃ i H', Inv (X.blk sD HD scope ce fp) [] (wipe σ (own.map (·.2))) H' s' ∧ tn i s'.heap ∧
            (∀ b ∈ fp, H' b = none) ∧ W i m H' := fun {s' H'} J' nx => by
        obtain ⟨m', lt, w'⟩ := less H' nx
        have pinned_ : ∀ b ∈ fp, ∀ o, s7.heap.get? b = some o → s'.heap.get? b = some o ∧ H' b = none := fun b hb o eb =>
          let z := J'.pin (b, o) (List.mem_append_right _ (List.mem_append_right _ (mem_pinsAt hb eb)))
          ⟨z.1, z.2.1⟩
        refine ⟨m', lt, i + 1, H', (J'.unpinned (pins := [])).weak (by rw [← same8, wipe_length]) (fun j v ev => ?_),
          T.keep _ _ _ st7 fun b hb o eb => (pinned_ b hb o eb).1, fun b hb => ?_, w'⟩
        · rw [← same8] at ev
          exact (wipe_some ev).1
        · obtain ⟨o, eb, _⟩ := T.obj _ _ st7 b hb
          exact (pinned_ b hb o eb).2
      cases yes with
      | false => exact after J9 (by simpa using q9)
      | true =>
        simp only [if_true] at q9 ⊢
        refine thnF (pk.run _ s9 σ8 H9 _ J9 q9) fun kv s10 ⟨yk, H10, J10, r10, q10⟩ => ?_
        refine thnF (pv.run _ s10 σ8 H10 _ J10 q10) fun vv s11 ⟨yv, H11, J11, r11, kvs, k, b, ek, hb, hD, small, nx⟩ => ?_
        subst ek
        cases (show kv = Value.ref b from r10)
        exact put_tupKey (X := X.blk sD HD scope ce fp) hu J11 hD small hb r11 fun s12 J12 => after J12 nx
  exact codeAny_compStart_dict whole (T.self X.A 0 _ _ _ stE whole)
end
section
variable {J : It} {n : Nat} {G : Hp → Prop} {Y : Nat → Hp → V → Hp → Prop}
/-- a dict comprehension with tuple keys over what is walked: Pv by the turn and the heap -/
theorem dcT_it (w : Walk J n G Y) {g : TG} {tt : TT} {tk tv : TE} {vs : List Nat} {σ : St} {H1 : Hp} {D : Addr} {Qd : Hp → Prop} (Pv : Nat → Hp → Prop)
    (start : Pv 0 (upd H1 D (.dT []))) (keep : ∀ i H, i ≤ n → Pv i H → G H)
    (step : ∀ i x H H', i < n → Pv i H → Y i H x H' → g x (wipe σ vs) H' fun σ2 H2 => wipe σ2 vs = wipe σ vs ∧ tt σ2 H2 fun ok H3 =>
      if ok = true then tk σ2 H3 fun y H4 => tv σ2 H4 fun z H5 => ∃ kvs k b, y = .ref b ∧ H5 b = some (.tup (k.map kV)) ∧
        H5 D = some (.dT kvs) ∧ kvs.length < sizeLine ∧ Pv (i + 1) (upd H5 D (.dT (putK kvs k z))) else Pv (i + 1) H3)
    (fin : ∀ H, Pv n H → Qd H) :
    ∃ W : Nat → Nat → Hp → Prop, (∃ m, W 0 m (upd H1 D (.dT []))) ∧ ∀ i m H, W i m H → (J.stop i H ∧ Qd H) ∨
      (J.go i H ∧ ∃ Nx : Hp → Prop, (∀ H', Nx H' → ∃ m', m' < m ∧ W (i + 1) m' H') ∧
        ∀ x H', J.yld i H x H' → g x (wipe σ vs) H' fun σ2 H2 => wipe σ2 vs = wipe σ vs ∧ tt σ2 H2 fun ok H3 =>
          if ok = true then tk σ2 H3 fun y H4 => tv σ2 H4 fun z H5 => ∃ kvs k b, y = .ref b ∧ H5 b = some (.tup (k.map kV)) ∧
            H5 D = some (.dT kvs) ∧ kvs.length < sizeLine ∧ Nx (upd H5 D (.dT (putK kvs k z))) else Nx H3) := by
  refine ⟨fun i m H => m + i = n ∧ Pv i H, ⟨n, rfl, start⟩, ?_⟩
  rintro i m H ⟨le, p⟩
  have here := keep i H (by omega) p
  rcases Nat.lt_or_ge i n with lt | ge
  · exact .inr ⟨w.goes i H lt here, Pv (i + 1), fun H' p' => ⟨n - (i + 1), by omega, by omega, p'⟩, fun x H' y => step i x H H' lt p (w.yields i H x H' lt here y)⟩
  · obtain rfl : i = n := by omega
    exact .inl ⟨w.stops H here, fin H p⟩
/-- the same, keys texts or ints -/
theorem dcK_it (w : Walk J n G Y) {g : TG} {tt : TT} {tk tv : TE} {vs : List Nat} {σ : St} {H1 : Hp} {D : Addr} {Qd : Hp → Prop} (Pv : Nat → Hp → Prop)
    (start : Pv 0 (upd H1 D (.dK []))) (keep : ∀ i H, i ≤ n → Pv i H → G H)
    (step : ∀ i x H H', i < n → Pv i H → Y i H x H' → g x (wipe σ vs) H' fun σ2 H2 => wipe σ2 vs = wipe σ vs ∧ tt σ2 H2 fun ok H3 =>
      if ok = true then tk σ2 H3 fun y H4 => tv σ2 H4 fun z H5 => ∃ kvs k, y = kV k ∧ H5 D = some (.dK kvs) ∧ kvs.length < sizeLine ∧
        Pv (i + 1) (upd H5 D (.dK (putK kvs k z))) else Pv (i + 1) H3)
    (fin : ∀ H, Pv n H → Qd H) :
    ∃ W : Nat → Nat → Hp → Prop, (∃ m, W 0 m (upd H1 D (.dK []))) ∧ ∀ i m H, W i m H → (J.stop i H ∧ Qd H) ∨
      (J.go i H ∧ ∃ Nx : Hp → Prop, (∀ H', Nx H' → ∃ m', m' < m ∧ W (i + 1) m' H') ∧
        ∀ x H', J.yld i H x H' → g x (wipe σ vs) H' fun σ2 H2 => wipe σ2 vs = wipe σ vs ∧ tt σ2 H2 fun ok H3 =>
          if ok = true then tk σ2 H3 fun y H4 => tv σ2 H4 fun z H5 => ∃ kvs k, y = kV k ∧ H5 D = some (.dK kvs) ∧ kvs.length < sizeLine ∧
            Nx (upd H5 D (.dK (putK kvs k z))) else Nx H3) := by
  refine ⟨fun i m H => m + i = n ∧ Pv i H, ⟨n, rfl, start⟩, ?_⟩
  rintro i m H ⟨le, p⟩
  have here := keep i H (by omega) p
  rcases Nat.lt_or_ge i n with lt | ge
  · exact .inr ⟨w.goes i H lt here, Pv (i + 1), fun H' p' => ⟨n - (i + 1), by omega, by omega, p'⟩, fun x H' y => step i x H H' lt p (w.yields i H x H' lt here y)⟩
  · obtain rfl : i = n := by omega
    exact .inl ⟨w.stops H here, fin H p⟩
end
section
variable {X : Cx}
/-- y = {k: v for ..}, y a local name that the block has none of -/
theorem ps_setDc {i : Nat} {y : Str} {py : Pos} {kx vx tg iter : Expr} {ifs : List Expr} {scope : Scope} {own : List (Str × Nat)} {pos spos : Pos}
    {wi : TI} {g : TG} {tt : TT} {tk tv : TE} (hc : X.calm = true) (hN : X.N.Nodup) (hy : X.N[i]? = some y)
    (hyl : X.env.scope.names.lookup y = some .local)
    (swap : swapsWith (.DictComp kx vx [⟨tg, iter, ifs, 0⟩] scope pos) (some (.Name y py)) spos.line X.env = pure true)
    (hi : PI X tg iter wi) (ok : BlkOk X.N X.env.scope scope own)
    (hg : ∀ (s : Shared) (H : Hp) (C : Addr) (cl : List (Str × Addr)) (fp : List Addr),
      PG (X.blk s H scope (compEnvC scope cl C X.env) fp) tg g)
    (ht : ∀ (s : Shared) (H : Hp) (C : Addr) (cl : List (Str × Addr)) (fp : List Addr),
      PTs (X.blk s H scope (compEnvC scope cl C X.env) fp) ifs tt)
    (hk : ∀ (s : Shared) (H : Hp) (C : Addr) (cl : List (Str × Addr)) (fp : List Addr),
      PE (X.blk s H scope (compEnvC scope cl C X.env) fp) kx tk)
    (he : ∀ (s : Shared) (H : Hp) (C : Addr) (cl : List (Str × Addr)) (fp : List Addr),
      PE (X.blk s H scope (compEnvC scope cl C X.env) fp) vx tv)
    (hs : ∀ x, foldedSetIterable iter X.env x = pure x := by intro _; rfl) :
    PS X (.Assign [.Name y py] (.DictComp kx vx [⟨tg, iter, ifs, 0⟩] scope pos) spos) (tAsg (tDc wi g tt tk tv (own.map (·.2))) (gName i)) := by
  refine ⟨fun pn sA σ HA D J want => ?_⟩
  rw [exec_Assign_Name_used _ _ _ _ swap]
  have want' : tDc wi g tt tk tv (own.map (·.2)) σ HA (fun x H1 => gName i x σ H1 D.nx) := want
  refine wpAny_bind (wpAny_standAt (wpAny_bind (wpAny_bind (thn (dc_core (Qf := fun _ s' => SP X pn D .next s') hc hN J hi ok hg ht hk he hs want'
    fun L C s' m H' J' q ns f => ?_) fun _ s' hq => wpAny_pure (wpAny_pure hq)))))
  refine wpAny_assign_Name (store_ok2 (v := V.ref L) J' hN hy (.inl hyl) rfl (fun s2 J2 ⟨a, sb, at_⟩ => ?_) (.inr hyl))
  obtain ⟨f0, f1, f2, f3, f4, f5⟩ := f
  have apart : C ≠ a := at_.elim (fun z => by rw [z]; exact f1) fun z e => f4 y a z e.symm
  exact ⟨m, ns.sameBut sb apart, fun h3 sb3 => ⟨_, H', J2.turned (t' := s2.toks) (fun b o hb e => (sb3.2 b hb).trans e) f0 f1 f3 f4 f5, q⟩⟩
theorem swap_dict {kx vx : Expr} {gs : List Comprehension} {scope : Scope} {pos py : Pos} {y : Str} {l : Nat} {env : Env} (hk : env.scope.kind = .function)
    (hy : env.scope.names.lookup y = some .local) (same : (py.line == pos.line) = true)
    (no : (scope.names.any fun (n, k) => n == y && (k == .local || k == .cell)) = false) : swapsWith (.DictComp kx vx gs scope pos) (some (.Name y py)) l env = pure true := by
  have k1 : env.kindOf y = some .local := hy
  have k2 : env.blockKind = .function := by
    unfold Env.blockKind
    rw [hk]
    rfl
  unfold swapsWith
  simp only [k1, k2, no, Expr.pos, same]
  rfl
end
theorem hu2_of {A : Around} {k : Nat} (hr : Room k A) : A.units + 2 < cLine := by
  have := hr.un
  omega
/-- what making an object keeps, no defaults -/
def KmkN (P : Program) (w : World) (K : PySem.W.Frag) (mg : Str → Option Value) (base : Heap) (C : Addr) (k : Nat) (ps : List Str) (sp : Sp) : Prop :=
  ∃ f fd, Mk K C f ∧ Binds K fd ps [] ∧ FnOk P w K mg base CX0 k f fd ps sp
theorem pe_kmkN {X : Cx} {k j : Nat} {ps : List Str} {sp : Sp} {x : Str} {p pos : Pos} {e : Expr} {es : List Expr} {t : TA} {C : Addr}
    (F : KmkN X.prog X.w X.K X.mg X.base C k ps sp) (hr : Room j X.A) (hg : Gl X x) (hm : X.mg x = some (.ref C))
    (ha : PA X (e :: es) t) (hj : k + 1 ≤ j := by decide) (hdb : (x == ("__debug__" : Str)) = false := by decide)
    (he : starEach (e :: es) X.env = (false, eval e X.env) :: starEach es X.env := by rfl)
    (hpl : (backTo pos (starEach es X.env)).any (·.1) = false := by rfl) (hx : Passes CX0 X E0 := by exact pass0) :
    PE X (.Call (.Name x p) (e :: es) [] pos) (tMake C sp [] E0 t) := by
  obtain ⟨f, fd, M, b, F⟩ := F
  exact pe_make M F (hr.mono hj) hg hm b .nil hx ha hdb he hpl
end L2
namespace KC
open PySem L2 PyProof.Rows
section
variable {P : Program} {w : World} {K : PySem.W.Frag} {mg : Str → Option Value} {base : Heap}
def spSletters (K : PySem.W.Frag) : Sp := fun vs H Q _ => ∃ (d : Addr) (kvs : List (List Key × V)) (st : List StE), vs = [.ref d] ∧
  H d = some (.dT kvs) ∧ StK K H kvs st ∧ st.length ≤ 1000 ∧ (lettersOf st).length < 64 ∧ TupOf H Q (lettersOf st)
theorem kp_sletters (T : Txt K mg) : Kf P w K mg base 1 "step_letters" ["steps"] (spSletters K) := by
  refine T.d_sletters.okF sc_sletters (fun vs H Q E h => ?_) (fun f cdv A outer s H vs Q E hA hr h => ?_)
  · obtain ⟨d, kvs, st, rfl, _⟩ := h
    rfl
  · obtain ⟨d, kvs, st, rfl, hd, hst, len, n64, k⟩ := h
    refine ⟨_, (pss_cons (ps_lock (ps_setDc (i := 1) (own := [("state", 2), ("letter", 3)]) (g := gTup K 2 (gCons (gName 2) (gCons (gName 3) gNil))) (tt := tYes) rfl sc_sletters.nd rfl rfl (swap_dict rfl rfl rfl (by decide +kernel)) (pi_keys (pv 0)) (blkOk_by (N := n_sletters) (sc := defScope s_sletters) (by decide +kernel)) (fun _ _ _ _ _ => pg_tup rfl (pgs_cons (pg_name (i := 2) sc_sletters.nd rfl (Or.inl rfl)) (pgs_cons (pg_name (i := 3) sc_sletters.nd rfl (Or.inl rfl)) pgs_nil))) (fun _ _ _ _ _ => pts_nil) (fun _ _ _ _ _ => (pv 3)) (fun _ _ _ _ _ => (pe_bl))))
 (pss_one (ps_ret (pe_callTy call_tuple_of (by rfl) (T.nb _ (by decide)) (by decide +kernel) (pa_cons (pe_callB cr_sortedS (by rfl) (T.nb _ (by decide)) (by decide +kernel) (pa_cons (pe_lock (pe_lc (own := [("letter", 3)]) (g := gName 3) (tt := tYes) rfl sc_sletters.nd (pi_keys (pv 1)) (blkOk_by (N := n_sletters) (sc := defScope s_sletters) (by decide +kernel)) (fun _ _ _ _ _ => pg_name (i := 3) sc_sletters.nd rfl (Or.inl rfl)) (fun _ _ _ _ _ => pts_nil) (fun _ _ _ _ _ => (pe_callTy SkE.call_str_str (by rfl) (T.nb _ (by decide)) (by decide +kernel) (pa_cons (pv 3) pa_nil))))) pa_nil)) pa_nil))))), ?_⟩
    refine ⟨d, _, hd, trivial, fun od => ?_⟩
    have hst1 := hst.lock (o := od) hd
    have hl : upd H d (.frz od (.dT kvs)) d = some (.frz od (.dT kvs)) := upd_same
    have old : Same H (upd (upd H d (.frz od (.dT kvs))) d (.dT kvs)) := unlock_same (u' := .frz od (.dT kvs)) hd (fun _ _ h => h)
    generalize eHL : upd H d (.frz od (.dT kvs)) = HL at hst1 hl old
    refine ⟨_, rfl, d, od, rfl, .inr ⟨kvs, hl, fun D hD => ?_⟩⟩
    refine dcK_it (walk_keysT (d := d) (o := od) (kvs := kvs)) (fun i H' => Same HL H' ∧ H' D = some (.dK ((((st.take i).map fun e => e.1.2).foldl addN []).map nmKv))) ⟨Same.new hD, upd_same⟩ (fun i H' _ p => p.1 _ _ hl) ?_ ?_
    · rintro i x H1 H2 hi ⟨sm, hDl⟩ ⟨rfl, k0, v0, q, e0, rfl, hq⟩
      have hi' : i < st.length := by rw [hst.len] at hi; exact hi
      obtain ⟨e, he⟩ : ∃ e, st[i]? = some e := ⟨_, List.getElem?_eq_getElem hi'⟩
      obtain ⟨qv, h1, h2⟩ := hst1.2 i e he
      rw [h1] at e0
      obtain ⟨rfl, rfl⟩ := Prod.mk.inj (Option.some.inj e0)
      have hq' : H2 q = some (.tup [.str e.1.1, .str e.1.2]) := hq
      refine ⟨q, _, rfl, SqT.of hq', rfl, _, _, rfl, _, _, rfl, rfl, rfl, yes_run ?_⟩
      refine ⟨_, rfl, _, .inr e.1.2, rfl, hDl, ?_, ?_, ?_⟩
      · rw [List.length_map]
        have := foldN_len ((st.take i).map fun e => e.1.2) []
        rw [List.length_map, List.length_take] at this
        simp only [List.length_nil] at this
        exact Nat.lt_of_le_of_lt (show _ ≤ 1000 by omega) (by decide)
      · intro b o eb
        exact upd_oth (fun z => by rw [z, hD] at eb; cases eb) (sm _ _ eb)
      · rw [put_nm, upd_same]
        have he' : (st.map fun e => e.1.2)[i]? = some e.1.2 := by rw [List.getElem?_map, he]; rfl
        rw [List.map_take, List.map_take, take_fold he']
    · rintro H' ⟨sm, hDl⟩
      rw [List.take_of_length_le (Nat.le_of_eq hst.len.symm)] at hDl
      dsimp only [gName]
      have dD : D ≠ d := fun z => by rw [z, hl] at hD; cases hD
      refine ⟨sm _ _ hl, ?_⟩
      have sm4 : Same H (upd H' d (.dT kvs)) := unlock_same (u' := .frz od (.dT kvs)) hd (by rw [eHL]; exact sm)
      have hN4 : upd H' d (.dT kvs) D = some (.dK ((lettersOf st).map nmKv)) := upd_oth dD hDl
      generalize upd H' d (.dT kvs) = F at hN4 sm4
      dsimp only [tRet, tCB, tCons]
      refine ⟨D, _, hN4, trivial, fun on => ?_⟩
      have hl3 : upd F D (.frz on (.dK ((lettersOf st).map nmKv))) D = some (.frz on (.dK ((lettersOf st).map nmKv))) := upd_same
      refine tlc_keys (d := D) (o := on) (kvs := (lettersOf st).map nmKv) (r := fun _ x => some x) hl3 (by rw [List.length_map]; exact Nat.le_of_lt (Nat.lt_of_lt_of_le n64 (by decide))) (fun R h => ⟨_, rfl, h⟩) ?_ ?_
      · intro i x H' hx _ Ky Kn hy _
        rw [List.map_map, List.getElem?_map] at hx
        cases en : (lettersOf st)[i]? with
        | none => rw [en] at hx; cases hx
        | some z =>
          rw [en] at hx
          obtain rfl : V.str z = x := Option.some.inj hx
          exact ⟨rfl, yes_run ⟨_, rfl, z, rfl, hy _ rfl⟩⟩
      · intro L hL
        have ef : fm (fun _ x => some x) 0 (((lettersOf st).map nmKv).map fun kv => kV kv.1) = (lettersOf st).map V.str := by
          rw [L2.fm_map (fun x => x) _ (fun _ _ => rfl), List.map_id', List.map_map]
          rfl
        rw [ef]
        have nL : D ≠ L := fun z => by rw [← z, hl3] at hL; cases hL
        refine ⟨upd_oth nL hl3, ?_⟩
        have sF := unlock_same hN4 (Same.new (u := .lst ((lettersOf st).map V.str)) hL)
        have hDF : upd (upd (upd F D (.frz on (.dK ((lettersOf st).map nmKv)))) L (.lst ((lettersOf st).map V.str))) D (.dK ((lettersOf st).map nmKv)) L = some (.lst ((lettersOf st).map V.str)) := upd_oth (Ne.symm nL) upd_same
        generalize upd (upd (upd F D (.frz on (.dK ((lettersOf st).map nmKv)))) L (.lst ((lettersOf st).map V.str))) D (.dK ((lettersOf st).map nmKv)) = FF at sF hDF
        refine ⟨L, _, rfl, SqL.of hDF, n64, fun ys p hperm hsort hp => ?_⟩
        refine ⟨p, _, rfl, .inl ⟨SqL.of upd_same, fun l hl => ?_⟩⟩
        have sAll : Same H (upd (upd FF p (.lst (ys.map V.str))) l (.tup (ys.map V.str))) := (sm4.trans sF).trans ((Same.new hp).trans (Same.new hl))
        exact k ys l _ hperm hsort (((sm4.trans sF).trans (Same.new (u := .lst (ys.map V.str)) hp)).free hl) sAll upd_same
end
end KC
namespace KC
open PySem L2 PyProof.Rows
def gC (mg : Str → Option Value) : Addr := adr mg "Converter"
structure TxC (K : PySem.W.Frag) (mg : Str → Option Value) : Prop where
  T : Txt K mg
  mgC : mg "Converter" = some (.ref (gC mg))
  cls : Cls K (gC mg)
  nA : ∀ x ∈ ["start", "states", "letters", "steps", "tails"], NoAttr K (gC mg) x
  most : ∃ u, Con K (gC mg) "MOST" (.int 6) u
  mostL : ∃ u, Con K (gC mg) "MOST_LETTERS" (.int 4) u
  init : ∃ f fd, Mk K (gC mg) f ∧ MD K "__init__" "Converter.__init__" s_init [] f fd ∧ Binds K fd ["self", "start", "steps", "tails"] []
/-- a dict of steps, as the package keeps it -/
structure StAt (K : PySem.W.Frag) (H : Hp) (d : Addr) (st : List StE) : Prop where
  ex : ∃ kvs, H d = some (.dT kvs) ∧ StK K H kvs st ∧ (kvs.map (·.1)).Nodup
def flds (s : Str) (ss ls d t : Addr) : List (Str × V) := [("start", .str s), ("states", .ref ss), ("letters", .ref ls), ("steps", .ref d), ("tails", .ref t)]
/-- a converter of these parts -/
def CvAt (K : PySem.W.Frag) (C : Addr) (H : Hp) (x : Addr) (s : Str) (st : List StE) (tl : List (Str × Str)) : Prop :=
  ∃ (dx ss ls d t : Addr) (ys zs : List Str), H x = some (.ins C dx (flds s ss ls d t)) ∧ H ss = some (.tup (ys.map V.str)) ∧ ys.Perm (namesOf s st tl) ∧ sortedS ys = true ∧
    H ls = some (.tup (zs.map V.str)) ∧ zs.Perm (lettersOf st) ∧ sortedS zs = true ∧ StAt K H d st ∧ H t = some (.dK (tl.map tlKv)) ∧ (tl.map (·.1)).Nodup
theorem StAt.same {K : PySem.W.Frag} {H H' : Hp} {d : Addr} {st : List StE} (h : StAt K H d st) (s : Same H H') : StAt K H' d st := by
  obtain ⟨kvs, a, b, c⟩ := h.ex
  exact ⟨kvs, s _ _ a, b.same s, c⟩
theorem CvAt.same {K : PySem.W.Frag} {C : Addr} {H H' : Hp} {x : Addr} {s : Str} {st : List StE} {tl : List (Str × Str)} (h : CvAt K C H x s st tl) (m : Same H H') : CvAt K C H' x s st tl := by
  obtain ⟨dx, ss, ls, d, t, ys, zs, h1, h2, h3, h4, h5, h6, h7, h8, h9, h10⟩ := h
  exact ⟨dx, ss, ls, d, t, ys, zs, m _ _ h1, m _ _ h2, h3, h4, m _ _ h5, h6, h7, h8.same m, m _ _ h9, h10⟩
theorem put_take {kvs : List (List Key × V)} {i : Nat} {k : List Key} {v : V} (nd : (kvs.map (·.1)).Nodup) (h : kvs[i]? = some (k, v)) : putK (kvs.take i) k v = kvs.take (i + 1) := by
  have no : ((kvs.take i).any fun kv => decide (kv.1 = k)) = false := by
    rw [List.any_eq_false]
    intro p hp z
    obtain ⟨j, hj, e⟩ := List.mem_iff_getElem.mp hp
    rw [List.length_take] at hj
    rw [List.getElem_take] at e
    have e1 : (kvs.map (·.1))[j]? = some k := by
      rw [List.getElem?_map, List.getElem?_eq_getElem (by omega), e]
      exact congrArg some (of_decide_eq_true z)
    have e2 : (kvs.map (·.1))[i]? = some k := by rw [List.getElem?_map, h]; rfl
    have li := (List.getElem?_eq_some_iff.mp h).1
    have := (List.getElem?_inj (by rw [List.length_map]; omega) nd).mp (e1.trans e2.symm)
    omega
  unfold putK
  rw [no]
  simp only [Bool.false_eq_true, if_false]
  rw [List.take_add_one, h]
  rfl
theorem put_takeK {kvs : List (Key × V)} {i : Nat} {k : Key} {v : V} (nd : (kvs.map (·.1)).Nodup) (h : kvs[i]? = some (k, v)) : putK (kvs.take i) k v = kvs.take (i + 1) := by
  have no : ((kvs.take i).any fun kv => decide (kv.1 = k)) = false := by
    rw [List.any_eq_false]
    intro p hp z
    obtain ⟨j, hj, e⟩ := List.mem_iff_getElem.mp hp
    rw [List.length_take] at hj
    rw [List.getElem_take] at e
    have e1 : (kvs.map (·.1))[j]? = some k := by
      rw [List.getElem?_map, List.getElem?_eq_getElem (by omega), e]
      exact congrArg some (of_decide_eq_true z)
    have e2 : (kvs.map (·.1))[i]? = some k := by rw [List.getElem?_map, h]; rfl
    have li := (List.getElem?_eq_some_iff.mp h).1
    have := (List.getElem?_inj (by rw [List.length_map]; omega) nd).mp (e1.trans e2.symm)
    omega
  unfold putK
  rw [no]
  simp only [Bool.false_eq_true, if_false]
  rw [List.take_add_one, h]
  rfl
section
variable {P : Program} {w : World} {K : PySem.W.Frag} {mg : Str → Option Value} {base : Heap}
/-- what parts a converter can be made of -/
structure OkParts (s : Str) (st : List StE) (tl : List (Str × Str)) : Prop where
  os : isName s = true
  ost : ∀ e ∈ st, okStep e
  lst : st.length ≤ 1000
  otl : ∀ e ∈ tl, okTail e
  ltl : tl.length ≤ 1000
  n6 : (namesOf s st tl).length ≤ 6
  l4 : (lettersOf st).length ≤ 4
def spInit (K : PySem.W.Frag) (C : Addr) : Sp := fun vs H Q _ => ∃ (x dx d t : Addr) (s : Str) (st : List StE) (tl : List (Str × Str)), vs = [.ref x, .str s, .ref d, .ref t] ∧ H x = some (.ins C dx []) ∧
  StAt K H d st ∧ H t = some (.dK (tl.map tlKv)) ∧ (tl.map (·.1)).Nodup ∧ OkParts s st tl ∧ ∀ H', But x H H' → CvAt K C H' x s st tl → Q .non H'
theorem kp_init (TC : TxC K mg) : KmkN P w K mg base (gC mg) 5 ["self", "start", "steps", "tails"] (spInit K (gC mg)) := by
  have T := TC.T
  obtain ⟨f, fd, M, F, b0⟩ := TC.init
  refine ⟨f, fd, M, b0, F.okM sc_init (fun vs H Q E h => ?_) (fun f cdv A outer s H vs Q E hA hr h => ?_)⟩
  · obtain ⟨x, dx, d, t, s, st, tl, rfl, _⟩ := h
    rfl
  · obtain ⟨x, dx, d, t, s, st, tl, rfl, hx, ⟨kvs, hd, hst, nd⟩, ht, ndt, ok, k⟩ := h
    refine ⟨_, (pss_cons (ps_if (pt_not (pt_val (pe_kf (kp_name T) hA hr (by rfl) (pa_cons (pv 1) pa_nil))))
 (pss_one (ps_never)) pss_nil)
 (pss_cons (ps_if (pt_not (pt_val (pe_kf (kp_steps T) hA hr (by rfl) (pa_cons (pv 2) pa_nil))))
 (pss_one (ps_never)) pss_nil)
 (pss_cons (ps_if (pt_not (pt_val (pe_kf (kp_tails T) hA hr (by rfl) (pa_cons (pv 3) pa_nil))))
 (pss_one (ps_never)) pss_nil)
 (pss_cons (ps_set (i := 4) sc_init.nd rfl (Or.inl rfl) (pe_kf (kp_snames T) hA hr (by rfl) (pa_cons (pv 1) (pa_cons (pv 2) (pa_cons (pv 3) pa_nil)))))
 (pss_cons (ps_set (i := 5) sc_init.nd rfl (Or.inl rfl) (pe_kf (kp_sletters T) hA hr (by rfl) (pa_cons (pv 2) pa_nil)))
 (pss_cons (ps_if (pt_cmpR op_gt (pe_callB call_len (by rfl) (T.nb _ (by decide)) PySem.boot_len (pa_cons (pv 4) pa_nil)) (pe_con (pv 0) rfl) (nomark _))
 (pss_one (ps_never)) pss_nil)
 (pss_cons (ps_if (pt_cmpR op_gt (pe_callB call_len (by rfl) (T.nb _ (by decide)) PySem.boot_len (pa_cons (pv 5) pa_nil)) (pe_con (pv 0) rfl) (nomark _))
 (pss_one (ps_never)) pss_nil)
 (pss_cons (ps_fld (pv 0) (pv 1) rfl)
 (pss_cons (ps_fld (pv 0) (pv 4) rfl)
 (pss_cons (ps_fld (pv 0) (pv 5) rfl)
 (pss_cons (ps_fld (pv 0) (pe_lock (pe_dcT (hu2_of hr) (own := [("key", 6)]) (g := gName 6) (tt := tYes) rfl sc_init.nd (pi_keys (pv 2)) (blkOk_by (N := n_init) (sc := defScope s_init) (by decide +kernel)) (fun _ _ _ _ _ => pg_name (i := 6) sc_init.nd rfl (Or.inl rfl)) (fun _ _ _ _ _ => pts_nil) (fun _ _ _ _ _ => (pv 6)) (fun _ _ _ _ _ => (pe_dget (hu_of hr) (pv 2) (pv 6) (fun _ _ => rfl))))) rfl)
 (pss_one (ps_fld (pv 0) (pe_lock (pe_dc (own := [("state", 7)]) (g := gName 7) (tt := tYes) rfl sc_init.nd (pi_keys (pv 3)) (blkOk_by (N := n_init) (sc := defScope s_init) (by decide +kernel)) (fun _ _ _ _ _ => pg_name (i := 7) sc_init.nd rfl (Or.inl rfl)) (fun _ _ _ _ _ => pts_nil) (fun _ _ _ _ _ => (pv 7)) (fun _ _ _ _ _ => (pe_dget (hu_of hr) (pv 3) (pv 7) (fun _ _ => rfl))))) rfl))))))))))))), ?_⟩
    have nx : ∀ {H' : Hp} {b : Addr} {o : HO}, H' x = some (.ins (gC mg) dx []) → H' b = some o → (∀ C dx fs, o ≠ .ins C dx fs) → b ≠ x := fun h1 h2 h3 z => by
      rw [z, h1] at h2
      exact h3 _ _ _ (Option.some.inj h2).symm
    refine ⟨_, rfl, .str s, rfl, .inl ⟨s, rfl, okL_len ok.os (by decide), fun H1 s1 => ?_⟩⟩
    rw [show okL 1 8 s = true from ok.os]
    refine ⟨_, rfl, iteF ?_⟩
    refine ⟨_, rfl, d, kvs, st, rfl, s1 _ _ hd, hst.same s1, nd, ok.ost, ok.lst, fun H2 s2 => ⟨_, rfl, iteF ?_⟩⟩
    have s02 := s1.trans s2
    refine ⟨_, rfl, t, tl, rfl, s02 _ _ ht, ndt, ok.otl, ok.ltl, fun H3 s3 => ⟨_, rfl, iteF ?_⟩⟩
    have s03 := s02.trans s3
    refine ⟨_, rfl, _, rfl, _, rfl, s, d, t, kvs, st, tl, rfl, s03 _ _ hd, hst.same s03, nd, ok.lst, s03 _ _ ht, ok.ltl, Nat.lt_of_le_of_lt ok.n6 (by decide), fun ys ss H4 hperm hsort hss s4 hss4 => ?_⟩
    have s04 := s03.trans s4
    refine ⟨_, rfl, d, kvs, st, rfl, s04 _ _ hd, hst.same s04, ok.lst, Nat.lt_of_le_of_lt ok.l4 (by decide), fun zs ls H5 hperm2 hsort2 hls s5 hls5 => ?_⟩
    have s05 := s04.trans s5
    have hss5 := s5 _ _ hss4
    have hx5 := s05 _ _ hx
    obtain ⟨u1, c1⟩ := TC.most
    obtain ⟨u2, c2⟩ := TC.mostL
    have ly : ys.length ≤ 6 := by rw [hperm.length_eq]; exact ok.n6
    have lz : zs.length ≤ 4 := by rw [hperm2.length_eq]; exact ok.l4
    refine ⟨_, rfl, .ref ss, _, rfl, .inr ⟨_, SqT.of hss5, rfl⟩, _, rfl, x, _, dx, _, _, u1, rfl, hx5, TC.cls, c1, rfl, _, _, rfl, rfl, _, rfl, ?_⟩
    rw [List.length_map, decide_eq_false (by omega)]
    refine iteF ?_
    refine ⟨_, rfl, .ref ls, _, rfl, .inr ⟨_, SqT.of hls5, rfl⟩, _, rfl, x, _, dx, _, _, u2, rfl, hx5, TC.cls, c2, rfl, _, _, rfl, rfl, _, rfl, ?_⟩
    rw [List.length_map, decide_eq_false (by omega)]
    refine iteF ?_
    refine ⟨_, rfl, _, rfl, x, _, dx, [], rfl, hx5, TC.cls, TC.nA _ (by decide), by show 0 < 1000; decide, ?_⟩
    refine ⟨_, rfl, _, rfl, x, _, dx, _, rfl, upd_same, TC.cls, TC.nA _ (by decide), by show 1 < 1000; decide, ?_⟩
    rw [upd_upd]
    refine ⟨_, rfl, _, rfl, x, _, dx, _, rfl, upd_same, TC.cls, TC.nA _ (by decide), by show 2 < 1000; decide, ?_⟩
    rw [upd_upd]
    have no : ∀ {b : Addr} {o : HO}, H5 b = some o → (∀ C dx fs, o ≠ .ins C dx fs) → b ≠ x := fun h2 h3 => nx hx5 h2 h3
    have ndx : d ≠ x := no (s05 _ _ hd) (fun _ _ _ z => by cases z)
    have ntx : t ≠ x := no (s05 _ _ ht) (fun _ _ _ z => by cases z)
    have nsx : ss ≠ x := no hss5 (fun _ _ _ z => by cases z)
    have nlx : ls ≠ x := no hls5 (fun _ _ _ z => by cases z)
    have dt : d ≠ t := fun z => by rw [z, ht] at hd; cases hd
    have bx : But x H (upd H5 x (.ins (gC mg) dx [("start", .str s), ("states", .ref ss), ("letters", .ref ls)])) := fun b hb o e => upd_oth hb (s05 _ _ e)
    have stE : StK K (upd H5 x (.ins (gC mg) dx [("start", .str s), ("states", .ref ss), ("letters", .ref ls)])) kvs st := by
      refine ⟨hst.1, fun i e he => ?_⟩
      obtain ⟨q, a1, a2⟩ := hst.2 i e he
      refine ⟨q, a1, ?_⟩
      rcases a2 with (a2 | ⟨o', a2⟩) | a2
      · exact .inl (.inl (bx _ (no (s05 _ _ a2) (fun _ _ _ z => by cases z)) _ a2))
      · exact .inl (.inr ⟨o', bx _ (no (s05 _ _ a2) (fun _ _ _ z => by cases z)) _ a2⟩)
      · exact .inr a2
    have hx6 : upd H5 x (.ins (gC mg) dx [("start", .str s), ("states", .ref ss), ("letters", .ref ls)]) x = some (.ins (gC mg) dx [("start", .str s), ("states", .ref ss), ("letters", .ref ls)]) := upd_same
    have hd6 := bx d ndx _ hd
    have ht6 := bx t ntx _ ht
    have hs6 : upd H5 x (.ins (gC mg) dx [("start", .str s), ("states", .ref ss), ("letters", .ref ls)]) ss = some (.tup (ys.map V.str)) := upd_oth nsx hss5
    have hl6 : upd H5 x (.ins (gC mg) dx [("start", .str s), ("states", .ref ss), ("letters", .ref ls)]) ls = some (.tup (zs.map V.str)) := upd_oth nlx hls5
    have e3 : putF "letters" (V.ref ls) (putF "states" (V.ref ss) (putF "start" (V.str s) [])) = ([("start", .str s), ("states", .ref ss), ("letters", .ref ls)] : List (Str × V)) := rfl
    rw [e3]
    generalize upd H5 x (.ins (gC mg) dx [("start", .str s), ("states", .ref ss), ("letters", .ref ls)]) = H6 at bx stE hx6 hd6 ht6 hs6 hl6
    -- the steps
    refine ⟨d, _, hd6, trivial, fun od => ?_⟩
    have hl : upd H6 d (.frz od (.dT kvs)) d = some (.frz od (.dT kvs)) := upd_same
    generalize eHL : upd H6 d (.frz od (.dT kvs)) = HL at hl
    refine ⟨_, rfl, d, od, rfl, .inr ⟨kvs, hl, fun D hD => ?_⟩⟩
    refine dcT_it (walk_keysT (d := d) (o := od) (kvs := kvs)) (fun i H' => Same HL H' ∧ H' D = some (.dT (kvs.take i))) ⟨Same.new hD, upd_same⟩ (fun i H' _ p => p.1 _ _ hl) ?_ ?_
    · rintro i x0 A1 A2 hi ⟨sm, hDl⟩ ⟨rfl, k0, v0, q, e0, rfl, hq⟩
      refine ⟨rfl, yes_run ?_⟩
      refine ⟨_, rfl, _, rfl, _, rfl, d, v0, rfl, .inr ⟨kvs, k0, q, .inr ⟨od, sm _ _ hl⟩, rfl, hq, (valV_at nd e0).symm⟩, ?_⟩
      refine ⟨_, k0, q, rfl, hq, hDl, ?_, ?_, ?_⟩
      · rw [List.length_take]
        have : kvs.length ≤ 1000 := by rw [hst.len]; exact ok.lst
        exact Nat.lt_of_le_of_lt (show _ ≤ 1000 by omega) (by decide)
      · intro b o eb
        exact upd_oth (fun z => by rw [z, hD] at eb; cases eb) (sm _ _ eb)
      · rw [put_take nd e0, upd_same]
    rintro A1 ⟨sm, hDl⟩
    rw [List.take_of_length_le (Nat.le_refl _)] at hDl
    have dD : D ≠ d := fun z => by rw [z, hl] at hD; cases hD
    refine ⟨sm _ _ hl, ?_⟩
    have s6 : Same H6 (upd A1 d (.dT kvs)) := unlock_same (u' := .frz od (.dT kvs)) hd6 (by rw [eHL]; exact sm)
    have hD6 : upd A1 d (.dT kvs) D = some (.dT kvs) := upd_oth dD hDl
    generalize upd A1 d (.dT kvs) = F at s6 hD6
    have hx7 := s6 _ _ hx6
    refine ⟨_, rfl, x, _, dx, _, rfl, hx7, TC.cls, TC.nA _ (by decide), by show 3 < 1000; decide, ?_⟩
    have e4 : putF "steps" (V.ref D) ([("start", .str s), ("states", .ref ss), ("letters", .ref ls)] : List (Str × V)) = ([("start", .str s), ("states", .ref ss), ("letters", .ref ls), ("steps", .ref D)] : List (Str × V)) := rfl
    rw [e4]
    have dDx : D ≠ x := fun z => by rw [z, hx7] at hD6; cases hD6
    have b7 : But x H6 (upd F x (.ins (gC mg) dx [("start", .str s), ("states", .ref ss), ("letters", .ref ls), ("steps", .ref D)])) := fun b hb o e => upd_oth hb (s6 _ _ e)
    have hx8 : upd F x (.ins (gC mg) dx [("start", .str s), ("states", .ref ss), ("letters", .ref ls), ("steps", .ref D)]) x = some (.ins (gC mg) dx [("start", .str s), ("states", .ref ss), ("letters", .ref ls), ("steps", .ref D)]) := upd_same
    have hD8 : upd F x (.ins (gC mg) dx [("start", .str s), ("states", .ref ss), ("letters", .ref ls), ("steps", .ref D)]) D = some (.dT kvs) := upd_oth dDx hD6
    have ht8 := b7 t ntx _ ht6
    have hs8 := b7 ss nsx _ hs6
    have hl8 := b7 ls nlx _ hl6
    have b8 : But x H (upd F x (.ins (gC mg) dx [("start", .str s), ("states", .ref ss), ("letters", .ref ls), ("steps", .ref D)])) := fun b hb o e => b7 b hb o (bx b hb o e)
    generalize upd F x (.ins (gC mg) dx [("start", .str s), ("states", .ref ss), ("letters", .ref ls), ("steps", .ref D)]) = H8 at hx8 hD8 ht8 hs8 hl8 b8
    -- the tails
    refine ⟨t, _, ht8, trivial, fun ot => ?_⟩
    have hlt : upd H8 t (.frz ot (.dK (tl.map tlKv))) t = some (.frz ot (.dK (tl.map tlKv))) := upd_same
    generalize eGL : upd H8 t (.frz ot (.dK (tl.map tlKv))) = GL at hlt
    refine ⟨_, rfl, t, ot, rfl, .inl ⟨_, hlt, fun D2 hD2 => ?_⟩⟩
    refine dcK_it (walk_keys (d := t) (o := ot) (kvs := tl.map tlKv)) (fun i H' => Same GL H' ∧ H' D2 = some (.dK ((tl.map tlKv).take i))) ⟨Same.new hD2, upd_same⟩ (fun i H' _ p => p.1 _ _ hlt) ?_ ?_
    · rintro i x0 A1 A2 hi ⟨sm, hDl⟩ ⟨rfl, k0, v0, e0, rfl⟩
      refine ⟨rfl, yes_run ?_⟩
      refine ⟨_, rfl, _, rfl, _, rfl, t, v0, rfl, .inl ⟨_, k0, .inr ⟨ot, sm _ _ hlt⟩, rfl, (valV_at (tl_nd ndt) e0).symm⟩, ?_⟩
      refine ⟨_, k0, rfl, hDl, ?_, ?_, ?_⟩
      · rw [List.length_take, List.length_map]
        have := ok.ltl
        exact Nat.lt_of_le_of_lt (show _ ≤ 1000 by omega) (by decide)
      · intro b o eb
        exact upd_oth (fun z => by rw [z, hD2] at eb; cases eb) (sm _ _ eb)
      · rw [put_takeK (tl_nd ndt) e0, upd_same]
    rintro A1 ⟨sm2, hDl2⟩
    rw [List.take_of_length_le (Nat.le_refl _)] at hDl2
    have dD2 : D2 ≠ t := fun z => by rw [z, hlt] at hD2; cases hD2
    refine ⟨sm2 _ _ hlt, ?_⟩
    have s8 : Same H8 (upd A1 t (.dK (tl.map tlKv))) := unlock_same (u' := .frz ot (.dK (tl.map tlKv))) ht8 (by rw [eGL]; exact sm2)
    have hD9 : upd A1 t (.dK (tl.map tlKv)) D2 = some (.dK (tl.map tlKv)) := upd_oth dD2 hDl2
    generalize upd A1 t (.dK (tl.map tlKv)) = G at s8 hD9
    have hx9 := s8 _ _ hx8
    refine ⟨_, rfl, x, _, dx, _, rfl, hx9, TC.cls, TC.nA _ (by decide), by show 4 < 1000; decide, ?_⟩
    have dD2x : D2 ≠ x := fun z => by rw [z, hx9] at hD9; cases hD9
    have b9 : But x H (upd G x (.ins (gC mg) dx (flds s ss ls D D2))) := fun b hb o e => upd_oth hb (s8 _ _ (b8 b hb o e))
    refine k _ b9 ⟨dx, ss, ls, D, D2, ys, zs, upd_same, upd_oth nsx (s8 _ _ hs8), hperm, hsort, upd_oth nlx (s8 _ _ hl8), hperm2, hsort2, ⟨kvs, upd_oth dDx (s8 _ _ hD8), ?_, nd⟩, upd_oth dD2x hD9, ndt⟩
    refine ⟨hst.1, fun i e he => ?_⟩
    obtain ⟨q, a1, a2⟩ := hst.2 i e he
    refine ⟨q, a1, ?_⟩
    rcases a2 with (a2 | ⟨o', a2⟩) | a2
    · exact .inl (.inl (b9 _ (no (s05 _ _ a2) (fun _ _ _ z => by cases z)) _ a2))
    · exact .inl (.inr ⟨o', b9 _ (no (s05 _ _ a2) (fun _ _ _ z => by cases z)) _ a2⟩)
    · exact .inr a2
end
end KC
namespace L2
open PySem PySem.Spec PyProof.Rows
end L2
namespace KC
open PySem L2 PyProof.Rows
/-- the step of a state and a letter -/
def stepOf (st : List StE) (s l : Str) : Option (Str × Str) := (st.find? fun e => decide (e.1 = (s, l))).map (·.2)
theorem stK_inj {e : StE} {s l : Str} (h : stK e = [.inr s, .inr l]) : e.1 = (s, l) := by
  have h1 := List.cons.inj h
  have h2 := List.cons.inj h1.2
  exact Prod.ext (Sum.inr.inj h1.1) (Sum.inr.inj h2.1)
theorem valV_none {κ : Type} [DecidableEq κ] {kvs : List (κ × V)} {k : κ} (h : k ∉ kvs.map (·.1)) : valV kvs k = none := by
  unfold valV
  rw [List.find?_eq_none.mpr]
  · rfl
  · intro p hp z
    exact h (List.mem_map.mpr ⟨p, hp, of_decide_eq_true z⟩)
theorem StK.get {K : PySem.W.Frag} {H : Hp} {kvs : List (List Key × V)} {st : List StE} (h : StK K H kvs st) (nd : (kvs.map (·.1)).Nodup) (s l : Str) :
    (stepOf st s l = none ∧ valV kvs [.inr s, .inr l] = none) ∨ ∃ a to q, stepOf st s l = some (a, to) ∧ valV kvs [.inr s, .inr l] = some (.ref q) ∧ SqT K H q [.str a, .str to] := by
  unfold stepOf
  cases e : st.find? fun e => decide (e.1 = (s, l)) with
  | none =>
    refine .inl ⟨rfl, valV_none fun hm => ?_⟩
    rw [h.1] at hm
    obtain ⟨x, hx, ek⟩ := List.mem_map.mp hm
    have := List.find?_eq_none.mp e x hx
    exact this (decide_eq_true (stK_inj ek))
  | some x =>
    have hx := List.mem_of_find?_eq_some e
    have ex : x.1 = (s, l) := by
      have := List.find?_some e
      simpa using this
    obtain ⟨i, hi, e1⟩ := List.mem_iff_getElem.mp hx
    obtain ⟨q, a1, a2⟩ := h.2 i x (by rw [List.getElem?_eq_getElem hi, e1])
    have := valV_at nd a1
    have ek : stK x = [.inr s, .inr l] := by
      unfold stK
      rw [ex]
    rw [ek] at this
    exact .inr ⟨x.2.1, x.2.2, q, rfl, this, a2⟩
end KC
namespace L2
open PySem PySem.Spec PyProof.Rows
/-- at a: an exception of the class at C, its dict d -/
def exc (a C : Addr) (d : Option Addr) : HO := .ext fun h =>
  ∃ (o : Obj) (us : Array Value), h.get? a = some o ∧ o.cls = .ref C ∧ o.dict = d ∧ o.data = .fields us
theorem exc_ok {P : Program} {w : World} {H : Hp} {h : Heap} {a C : Addr} {d : Option Addr} {o : Obj} {us : Array Value}
    (e : h.get? a = some o) (c : o.cls = .ref C) (k : o.dict = d) (z : o.data = .fields us) : ObjOk P w H h a (exc a C d) :=
  ⟨⟨o, us, e, c, k, z⟩, ⟨o, e⟩, fun _ _ ⟨u, vs, q, r⟩ st => ⟨u, vs, st u q, r⟩⟩
section
variable {X : Cx} {pins : List (Addr × Obj)} {σ : St} {H : Hp} {s : Shared}
/-- what stands in the heap, and was new to the def, is tracked from now on -/
theorem Inv.track {a : Addr} {o : HO} (I : Inv X pins σ H s) (hn : H a = none) (h0 : X.s_0.heap.get? a = none)
    (nL : a ≠ X.env.locals) (nC : ∀ x c, X.env.cells.lookup x = some c → c ≠ a) (nP : ∀ p ∈ X.pn ++ pins, p.1 ≠ a)
    (new : ObjOk X.prog X.w (upd H a o) s.heap a o) : Inv X pins σ (upd H a o) s where
  ok := I.ok
  os := I.os
  bare := I.bare
  base := {
    keep := I.base.keep
    slot := I.base.slot
    free := fun b u e n hx => by
      have hb : b ≠ a := fun z => by
        rw [z, h0] at e
        cases e
      rw [upd_ne hb]
      exact I.base.free b u e n hx
    there := I.base.there
    tups := fun b xs e => by
      have q := I.base.tups b xs e
      rw [upd_ne (ne_of_none q hn)]
      exact q
    frzs := fun b u v e => by
      have q := I.base.frzs b u v e
      rw [upd_ne (ne_of_none q hn)]
      exact q
    tbls := fun b ps e => by
      obtain ⟨m, q⟩ := I.base.tbls b ps e
      exact ⟨m, by rw [upd_ne (ne_of_none q hn)]; exact q⟩ }
  loc := I.loc
  cell := I.cell
  free := by
    rw [upd_ne (Ne.symm nL)]
    exact I.free
  freeC := fun x c e => by
    rw [upd_ne (nC x c e)]
    exact I.freeC x c e
  pin := fun p hp => by
    obtain ⟨e, n, r⟩ := I.pin p hp
    exact ⟨e, by rw [upd_ne (nP p hp)]; exact n, r⟩
  hok := I.hok.laidN (fun _ _ q => q) hn new
  len := I.len
end
/-- what a clause that keeps its exception wishes of the block ahead; i: the slot of its name, m: how many slots there are -/
def wKeep (K : PySem.W.Frag) (c : Value) (m i : Nat) (ts : Addr → Value → Option Addr → TS) (Wo : WX) (D : Ends) : WX := fun cls d σ H =>
  ∃ b, PySem.W.exmOne K cls c = some b ∧ (b = false → Wo cls d σ H) ∧
    (b = true → σ.length = m → ∃ C, cls = .ref C ∧ ∀ a, H a = none →
      ts a cls d { nx := fun σ' H' => D.nx (σ'.set i none) (upd H' a (exc a C d)), rt := fun _ _ => False } (σ.set i (some (.ref a))) H)
section
variable {X : Cx} {x n : Str} {c : Value} {i : Nat} {body suite : List Stmt} {b0 : Stmt} {np pos pos' : Pos} {tb : WX → TS}
  {ts : Addr → Value → Option Addr → TS} {Wo : WX}
theorem ps_try_keep (hs : X.stack = X.env :: X.outer) (hf : X.env.frame = some X.env.locals) (hex : X.ex = []) (hN : X.N.Nodup) (hi : X.N[i]? = some n)
    (hl : X.env.kindOf n = some .local) (hc : Names X x c) (tk : Takes X Wo)
    (hb : ∀ (W : WX) (pn : List (Addr × Obj)) (xe : Value → Shared → Prop), Takes (X.tr pn xe) W →
      PassesOwn (model X.prog X.w) X.A X.env xe → PSs (X.tr pn xe) body (tb W))
    (hsu : ∀ (a : Addr) (oe : Obj) (cls : Value) (d : Option Addr) (pn : List (Addr × Obj)), Zc cls d oe →
      (∃ vs, oe.data = .fields vs) → PSs (X.suite a ((a, oe) :: pn)) (b0 :: suite) (ts a cls d)) :
    PS X (.Try body [.ExceptHandler (some (.Name x np)) (some n) (b0 :: suite) pos'] [] [] pos)
      (fun D σ H => tb (wKeep X.K c X.N.length i ts Wo D) D σ H) := by
  constructor
  intro pins s σ H D I h
  have ok := I.ok
  have fr : X.A.frames = some (X.env :: X.outer) := by
    rw [ok.frames, hs]
  refine wpAny_Try_except (wpAny_mono ((hb (wKeep X.K c X.N.length i ts Wo D) (X.pn ++ pins) _ ?_ PassesOwn.looking).run [] s σ H D (I.toTry _) h) ?_ (fun _ _ e => e))
  rotate_left
  · intro f s1 q
    cases f with
    | next =>
      obtain ⟨σ1, H1, I1, q1⟩ := q
      exact wpAny_execs_nil ⟨σ1, H1, I1.ofTry ok, q1⟩
    | brk =>
      obtain ⟨σ1, H1, I1, q1⟩ := q
      exact ⟨σ1, H1, I1.ofTry ok, q1⟩
    | cont =>
      obtain ⟨σ1, H1, I1, q1⟩ := q
      exact ⟨σ1, H1, I1.ofTry ok, q1⟩
    | ret u =>
      obtain ⟨v, σ1, H1, I1, r1, q1⟩ := q
      exact ⟨v, σ1, H1, I1.ofTry ok, r1, q1⟩
  · rintro u s2 ⟨a, B, sI, pins', σ', H', cls, d, rfl, J0, nb, up, sky, na, os, ag, b, hm, hno, hyes⟩
    have J : Inv X pins σ' H' sI := J0.ofTry ok
    have sky1 : Sky B (X.env :: X.outer) a (Zc cls d) X.env.locals s2.heap := by
      rw [← hs]
      exact sky
    refine Sky.land Zc.steady fr hf sky1 fun h3 fl up3 => ?_
    have J3 : Inv X pins σ' H' { s2 with heap := h3 } := J.landed nb fl.1 (up.trans up3) os ag
    obtain ⟨o3, us3, e3, z3, d3⟩ := fl.there
    have nfr : a ∉ frs (X.env :: X.outer) := fun hm => by
      obtain ⟨_, o, e, nf⟩ := fl.2.2.1.mem hm
      rw [e3] at e
      cases e
      exact nf _ d3
    have nL : a ≠ X.env.locals := fun z => nfr (List.mem_filterMap.mpr ⟨X.env, List.mem_cons_self, by rw [hf, z]⟩)
    have inFs : ∀ {b : Addr}, b ∈ X.fs → b ∈ frs (X.env :: X.outer) := fun hm => by
      obtain ⟨e, he, q⟩ := List.mem_filterMap.mp hm
      exact List.mem_filterMap.mpr ⟨e, List.mem_cons_of_mem _ he, q⟩
    have nF : a ∉ X.fs := fun hm => nfr (inFs hm)
    have a0 : ∀ o, sI.heap.get? a ≠ some o := fun o e => by
      have q := nb a o e (by
        show a ∉ frs X.stack
        rw [hs]
        exact nfr)
      rw [fl.2.1] at q
      cases q
    have h0 : X.s_0.heap.get? a = none := by
      cases e : X.s_0.heap.get? a with
      | none => rfl
      | some o =>
        obtain ⟨o', q⟩ := J.base.there a o e (by rw [hex]; exact fun z => nomatch z)
        exact absurd q (a0 o')
    have nP : ∀ p ∈ X.pn ++ pins, p.1 ≠ a := fun p hp z => by
      have q := (J.pin p hp).1
      rw [z] at q
      exact a0 _ q
    have S3 := J3.suite e3 d3 na nL nF
    refine wpAny_handleBy_cons (codeAny_handlers_test ?_) (by intro q; cases q)
    have LM := PySem.W.exm_one (M := model X.prog X.w) J3.kIn
      (fun A Q E s k q => wpAny_typeOf_ref (k _ _ e3) (by rw [z3.1]; exact q) : PySem.W.Looks (model X.prog X.w) h3 (typeOf (.ref a)) cls) hm
    have named : ∀ {Q : Value → Shared → Prop} {E : Value → Shared → Prop}, Q c { s2 with heap := h3 } →
        wpAny (model X.prog X.w) (X.A.mark (some (.ref a))) (eval (.Name x np) X.env) Q E { s2 with heap := h3 } := fun {Q E} q => by
      obtain ⟨hg, hdb, hm | ⟨hm, hv, hnn⟩⟩ := hc
      · exact ld_glob (X := X.suite a ((a, o3) :: (X.pn ++ pins))) S3 hg hm q hdb
      · exact ld_blt (X := X.suite a ((a, o3) :: (X.pn ++ pins))) S3 hg hm hv q hnn hdb
    refine named (LM.here ?_)
    cases b with
    | true =>
      obtain ⟨C, rfl, hk⟩ := hyes rfl J.len
      refine codeAny_handlers_suite_as (HandSPX.lands_againZ fl fun h4 fl4 up4 => ?_)
      have J4 : Inv X pins σ' H' { s2 with heap := h4 } := J.landed nb fl4.1 ((up.trans up3).trans up4) os ag
      obtain ⟨o4, us4, e4, z4, d4⟩ := fl4.there
      refine store_ok (X := X.suite a ((a, o4) :: (X.pn ++ pins))) (v := .ref a) (J4.suite e4 d4 na nL nF) hN hi (.inl hl) rfl (fun s5 S5 => ?_) (.inr hl)
      refine wpAny_mono ((hsu a o4 _ d (X.pn ++ pins) z4 ⟨_, d4⟩).run [] s5 _ H' _ S5 (hk a na)) (fun f s6 q => ?_) (fun _ _ z => False.elim z)
      cases f with
      | next =>
        obtain ⟨σ6, H6, S6, q6⟩ := q
        have Jp : Inv X ((a, o4) :: pins) σ6 H6 s6 := ⟨ok, S6.os, S6.bare, S6.base, S6.loc, S6.cell, S6.free, S6.freeC, fun p hp => by
          refine S6.pin p ?_
          rw [List.append_nil]
          rcases List.mem_append.mp hp with h | h
          · exact List.mem_cons_of_mem _ (List.mem_append_left _ h)
          · rcases List.mem_cons.mp h with h | h
            · rw [h]
              exact List.mem_cons_self
            · exact List.mem_cons_of_mem _ (List.mem_append_right _ h), S6.hok, S6.len⟩
        show wpAny (model X.prog X.w) X.A (do bindName X.env n .none; unbindBehindTheSuite X.env n pos') _ X.xe s6
        refine gone_ok Jp hN hi hl fun s7 J7 => ?_
        obtain ⟨e7, n7, _⟩ := J7.pin (a, o4) (List.mem_append_right _ List.mem_cons_self)
        have J8 : Inv X pins (σ6.set i none) H6 s7 := ⟨ok, J7.os, J7.bare, J7.base, J7.loc, J7.cell, J7.free, J7.freeC, fun p hp => J7.pin p (by
          rcases List.mem_append.mp hp with h | h
          · exact List.mem_append_left _ h
          · exact List.mem_append_right _ (List.mem_cons_of_mem _ h)), J7.hok, J7.len⟩
        refine ⟨_, _, J8.track n7 h0 nL (fun y k ek z => ?_) nP (exc_ok e7 z4.1 z4.2 d4), q6⟩
        obtain ⟨v, o, eo, dd⟩ := J8.cell y k ek
        rw [z] at eo
        have eo' : some o4 = some o := e7.symm.trans eo
        cases eo'
        rw [d4] at dd
        cases dd
      | brk =>
        obtain ⟨_, _, _, z⟩ := q
        exact False.elim z
      | cont =>
        obtain ⟨_, _, _, z⟩ := q
        exact False.elim z
      | ret u =>
        obtain ⟨_, _, _, _, _, z⟩ := q
        exact False.elim z
    | false =>
      refine wpAny_handleBy_nil ?_
      obtain ⟨k1, k2, k3, oe, vs, T, oT, ts', he, hz, hd, h1, hr⟩ := id fl
      unfold PySem.passOn
      refine wpAny_bind (wpAny_field he hd h1 ?_)
      rw [if_neg (show ¬ ((Value.ref T == Value.none) = true) from by simp)]
      have fin : wpAny (model X.prog X.w) X.A (setFlight (.ref a) X.env.frame)
          (fun _ s4 => wpAny (model X.prog X.w) X.A (throw (.ref a) : Sem Flow) (SP X pins D) X.xe s4) X.xe { s2 with heap := h3 } := by
        rw [hf]
        exact HandSPX.setFlight_upZ fl fun h4 hh up4 => wpAny_throw (tk _ _
          ⟨a, B, sI, pins, σ', H', cls, d, rfl, J, nb, (up.trans up3).trans up4, .inr (.inr (by rw [hs]; exact hh)), na, os, ag, hno rfl⟩)
      first
        | exact wpAny_bind (wpAny_pure (wpAny_bind fin))
        | exact wpAny_bind fin
end
theorem inst_exc {P : Program} {w : World} {H : Hp} {h : Heap} {a C dx : Addr} {fs : List (Str × V)}
    (hok : HOk P w H h) (ha : H a = some (exc a C (some dx))) (hd : H dx = some (.xd fs)) :
    ∃ (oe od : Obj) (mA : Str → Option Value), PySem.W.InstAt h a oe C (some od) ∧
      (∀ n, PySem.W.lookIn n od = some (mA n)) ∧ ∀ f, RelO (fs.lookup f) (mA f) := by
  have z : ObjOk P w H h a (exc a C (some dx)) := hok a _ ha
  obtain ⟨⟨oe, us, e, c, k, z⟩, _⟩ := z
  have y : ObjOk P w H h dx (.xd fs) := hok dx _ hd
  obtain ⟨mA, hn, r⟩ := y
  obtain ⟨od, ho, hl⟩ := lookIn_ns hn
  exact ⟨oe, od, mA, ⟨e, c, by unfold PySem.W.notCls; rw [z] <;> rfl, by rw [k]; exact ho⟩, hl, r⟩
/-- e.f, e kept -/
def tXw (K : PySem.W.Frag) (f : Str) (te : TE) : TE := fun σ H Q => te σ H fun x H1 =>
  ∃ (a C dx : Addr) (fs : List (Str × V)) (v : V), x = .ref a ∧ XCl K C ∧ PySem.W.findIn K (.ref C) f = some none ∧
    H1 a = some (exc a C (some dx)) ∧ H1 dx = some (.xd fs) ∧ fs.lookup f = some v ∧ Q v H1
/-- isinstance(e, c), e kept -/
def rIsw (K : PySem.W.Frag) : List V → Hp → VK → Prop := fun xs H Q =>
  ∃ (a C dx : Addr) (fs : List (Str × V)) (c : V) (cv : Value) (b : Bool), xs = [.ref a, c] ∧ XCl K C ∧
    H a = some (exc a C (some dx)) ∧ H dx = some (.xd fs) ∧
    (∀ u, RelV c u → u = cv) ∧ PySem.W.kitOne K (.ref C) cv = some b ∧ Q (.bl b) H
section
variable {X : Cx}
theorem pe_xw {e : Expr} {te : TE} {pos : Pos} {f : Str} (he : PE X e te)
    (hb : attributeBase e f X.env (eval e X.env) = eval e X.env := by rfl) :
    PE X (.Attribute e f pos) (tXw X.K f te) := by
  refine ⟨fun pins s σ H Q I h => attr_of hb (thn (he.run pins s σ H _ I h) fun u s1 hh => ?_)⟩
  obtain ⟨x, H1, I1, rx, a, C, dx, fs, v, rfl, T, hno, ha, hd, l, q⟩ := hh
  obtain rfl : u = Value.ref a := rx
  obtain ⟨oe, od, mA, J, hl, hr⟩ := inst_exc I1.hok ha hd
  obtain ⟨u, hu, ru⟩ := RelO.some_of (v := v) (o := mA f) (by rw [← l]; exact hr f)
  exact HandSPX.exc_get I1.kIn J T.ga T.gg T.ex (PySem.W.findObj_own T.hd hno rfl (by rw [hl, hu]))
    (handed_of ru) ⟨v, H1, I1.tok _, ru, q⟩
theorem call_isw : CallR X (.builtin "isinstance") (rIsw X.K) := by
  intro pins s σ H xs us Q I r h
  obtain ⟨a, C, dx, fs, c, cv, b, rfl, T, ha, hd, hc, e, q⟩ := h
  obtain ⟨u1, u2, rfl, r1, r2⟩ := vals2 r
  obtain rfl : u1 = Value.ref a := r1
  obtain rfl := hc _ r2
  obtain ⟨oe, od, _, J, _⟩ := inst_exc I.hok ha hd
  exact PySem.W.kia_one (PySem.W.kitx_exc T.ci T.ga T.gg T.ex T.ca T.cn T.ct T.co) I.kIn J e (fun z => nomatch z)
    fun tk => ⟨.bl b, H, I.tok tk, rfl, q⟩
end
end L2
namespace L2
open PySem PySem.Spec PyProof.Rows
/-- what __init__ keeps; the dict is told to be new -/
def spInd (C : Addr) (fs : List Str) : Sp := fun vs H Q _ => ∃ (a : Addr) (xs : List V),
  vs = .ref a :: xs ∧ xs.length = fs.length ∧ H a = some (exo a C none) ∧
  ∀ (dx : Addr) (H' : Hp), H dx = none → dx ≠ a → But a H H' → H' a = some (exo a C (some dx)) →
    H' dx = some (exd dx (fs.zip xs).reverse) → Q .non H'
/-- what raising one keeps -/
def MkR (P : Program) (w : World) (K : PySem.W.Frag) (mg : Str → Option Value) (base : Heap) (x : Str) (fs : List Str) :
    Prop := mg x = some (.ref (adr mg x)) ∧ ∃ fI fd, XMk K (adr mg x) fI ∧ Binds K fd ("self" :: fs) [] ∧
  FnOk P w K mg base CX0 1 fI fd ("self" :: fs) (spInd (adr mg x) fs)
section
variable {P : Program} {w : World} {K : PySem.W.Frag} {mg : Str → Option Value} {base : Heap}
theorem ini1d {x q f : Str} {st : Stmt} {fI : Addr} {fd : FuncData} (E : ErrK K mg x [f])
    (F : Fun K "__init__" q st fI fd) (S : FnScope ["self", f] ["self", f] (defScope st))
    (hb : ∀ (cdv : Value) (A : Around) (outer : List Env) (s : Shared) (H : Hp) (E : XK),
      PSs (cxOf CX0 P w K mg base ["self", f] q (defScope st) fI cdv A outer s H E).nox (defBody st)
        (tOst K f (tVar 0) (tVar 1))) :
    FnOk P w K mg base CX0 1 fI fd ["self", f] (spInd (adr mg x) [f]) := by
  refine F.ok S (fun vs H Q E h => ?_) (fun cdv A outer s H vs Q E' hr h => ?_)
  · obtain ⟨a, xs, rfl, l, _⟩ := h
    simp only [List.length_cons] at l ⊢
    omega
  · obtain ⟨a, xs, rfl, l, ha, k⟩ := h
    obtain ⟨v, rfl⟩ : ∃ v, xs = [v] := by
      match xs, l with
      | [v], _ => exact ⟨v, rfl⟩
    refine ⟨_, hb cdv A outer s H E', _, rfl, _, rfl, a, _, rfl, E.T, E.na f (by simp), .inl ⟨ha, fun dx nd ne => ?_⟩⟩
    exact k dx _ nd ne (fun b hb o e => upd_oth hb (upd_new nd e)) upd_same ((upd_ne ne).trans upd_same)
end
/-- X(e, ..), to be raised -/
def tRz (C : Addr) (fs : List Str) (ta : TA) : St → Hp → XK → Prop := fun σ H Q => ta σ H fun vs H1 =>
  vs.length = fs.length ∧ fs.length ≤ 900 ∧ ∀ (d : Addr) (H' : Hp), H1 d = none → Same H1 H' →
    H' d = some (.xd (fs.zip vs).reverse) → Q (.ref C) (some d) H'
theorem PA.weaker {X : Cx} {es : List Expr} {ta : TA} (h : PA X es ta) :
    PA X es (fun σ H Q => ∃ Q0, ta σ H Q0 ∧ ∀ vs H1, Q0 vs H1 → Q vs H1) :=
  ⟨fun pos pins s σ H Q I ⟨Q0, z, k⟩ => thn (h.run pos pins s σ H Q0 I z) fun us s1 ⟨vs, H1, I1, r, q⟩ => ⟨vs, H1, I1, r, k _ _ q⟩⟩
section
variable {X : Cx} {x : Str} {p pos pos' : Pos} {e : Expr} {es : List Expr} {ta : TA} {fs : List Str} {j : Nat} {W : WX}
theorem pmk_e (M : MkR X.prog X.w X.K X.mg X.base x fs) (hr : Room j X.A) (hg : Gl X x) (ha : PA X (e :: es) ta)
    (hj : 2 ≤ j := by decide) (hx : Passes CX0 X E0 := by exact pass0) (hdb : (x == ("__debug__" : Str)) = false := by decide)
    (he : starEach (e :: es) X.env = (false, eval e X.env) :: starEach es X.env := by rfl)
    (hpl : (backTo pos (starEach es X.env)).any (·.1) = false := by rfl) :
    PMk X (.Call (.Name x p) (e :: es) [] pos) (tRz (adr X.mg x) fs ta) := by
  obtain ⟨hm, fI, fd, XM, hb, F⟩ := M
  intro pins s σ H Q I h
  refine pmk_oex (sp := spInd (adr X.mg x) fs) (dvs := []) XM.T XM.ini XM.ty F (hr.mono hj) hb .nil hx hg hm ha.weaker hdb he hpl pins s σ H Q I ⟨_, h, fun vs H1 ⟨l, l9, k⟩ => ?_⟩
  refine ⟨by omega, fun a hn => ⟨a, vs ++ [], rfl, by rw [List.append_nil]; exact l, upd_same, fun dx H' nd ne hbt ea ed => ?_⟩⟩
  rw [List.append_nil] at ed
  have n1 : H1 dx = none := by
    rw [upd_ne ne] at nd
    exact nd
  refine ⟨rfl, dx, _, ea, ed, n1, k dx _ n1 (fun b o z => ?_) upd_same⟩
  have hba : b ≠ a := ne_of_none z hn
  rw [upd_ne (ne_of_none z n1), del_ne hba]
  exact hbt b hba o (upd_new hn z)
/-- raise X(e, ..) -/
theorem ps_rz (hc : X.calm = true) (tk : Takes X W) (M : MkR X.prog X.w X.K X.mg X.base x fs) (hr : Room j X.A) (hg : Gl X x)
    (ha : PA X (e :: es) ta) (hj : 2 ≤ j := by decide) (hx : Passes CX0 X E0 := by exact pass0)
    (hdb : (x == ("__debug__" : Str)) = false := by decide)
    (he : starEach (e :: es) X.env = (false, eval e X.env) :: starEach es X.env := by rfl)
    (hpl : (backTo pos (starEach es X.env)).any (·.1) = false := by rfl) :
    PS X (.Raise (some (.Call (.Name x p) (e :: es) [] pos)) none pos') (fun _ σ H => tRz (adr X.mg x) fs ta σ H fun cls d H' => W cls d σ H') :=
  ps_raise hc tk (pmk_e M hr hg ha hj hx hdb he hpl)
end
end L2
namespace PySem.W
open PySem PySem.Calls PyProof.Rows
end PySem.W
namespace L2
open PySem PySem.Spec PyProof.Rows
section
variable {X : Cx} {CX : CXT} {k j : Nat} {f C : Addr} {fd : FuncData} {ps : List Str} {sp : Sp} {E : XK} {x : Str} {p pos : Pos} {e : Expr} {es : List Expr} {tf : TE} {ta : TA}
/-- how keywords bind behind the instance -/
def KwI (fd : FuncData) (ps ks : List Str) : Prop := ∀ (s : Shared) (u : Value) (ws : List Value), ws.length = ks.length →
  BindsTo s fd ⟨[u], ks.zip ws⟩ (ps.zip (u :: ws))
/-- o.m(k = v), no default -/
theorem pe_methKw {pl : Sem Bool} {m : Str} {apos : Pos} {o : Expr} {to : TE} {kws : List Keyword} {ks : List Str} (he : PE X o to) (c : Cls X.K C) (hm : Meth X.K C m f)
    (F : FnOk X.prog X.w X.K X.mg X.base CX k f fd ps sp) (hr : Room k X.A) (hb : KwI fd ps ks) (hx : Passes CX X E) (hl : ∀ vs H Q E, sp vs H Q E → vs.length = ks.length + 1)
    (hkw : PK X kws ta) (hks : (backToKw pos (keywordEach kws X.env)).filterMap (·.1) = ks := by rfl)
    (hall : (backToKw pos (keywordEach kws X.env)).all (·.1.isSome) = true := by rfl)
    (hpl : ((backTo pos (starEach [] X.env)).any (·.1) || (backToKw pos (keywordEach kws X.env)).any (·.1.isNone)) = false := by rfl)
    (ht : eval (.Call (.Attribute o m apos) [] kws pos) X.env = (do
      let ov ← eval o X.env
      standAt apos.atName
      let (f, first) ← holding [ov] (getMethod ov m pl)
      callWith pos f first (backTo pos (starEach [] X.env)) (backToKw pos (keywordEach kws X.env))) := by rfl) :
    PE X (.Call (.Attribute o m apos) [] kws pos) (tMeth C m sp [] E to ta) := by
  refine ⟨fun pins s σ H Q I h => ?_⟩
  refine PySem.W.methodCall_KW (pl := pl) (thn (he.run pins s σ H _ I h) fun u s1 ⟨x, H1, I1, rx, a, dx, fs, ex, ea, l, q⟩ => ?_) ht
  subst ex
  obtain rfl : u = Value.ref a := rx
  refine getmeth_ok I1 ea c hm l ?_
  refine PySem.W.callWith_KW0 (first := [.ref a]) (h₀ := X.base) I.ok.mod.kin hm.kp hall (thn (hkw.run pos pins s1 σ H1 _ I1 q) fun us s2 ⟨vs, H2, I2, r2, hsp⟩ => ⟨I2.kIn, ?_⟩) hpl
  rw [hks]
  have hsp' : sp (.ref a :: vs) H2 Q E := by
    have z : sp (.ref a :: (vs ++ [])) H2 Q E := hsp
    rw [List.append_nil] at z
    exact z
  have hn := hl _ _ _ _ hsp'
  refine wpAny_call (codeAny_mono (F.run X.A X.stack s2 H2 ⟨[.ref a], ks.zip us⟩ (.ref a :: us) (.ref a :: vs) Q E hr I2.env0 (hb s2 _ us (by
    rw [← Paired.length r2]
    simpa using hn)) (.cons rfl r2) hsp') fun r s' hq => ?_)
  cases r with
  | error e => exact hx pins σ H2 s2 e s' I2 hq
  | ok fl =>
    cases fl with
    | ret u => exact I2.after hq
    | next => exact False.elim hq
    | brk => exact False.elim hq
    | cont => exact False.elim hq
end
end L2
namespace L2
open PySem PySem.Spec PyProof.Rows
/-- v is data and can be shown; its text -/
def Shw (K : PySem.W.Frag) (H : Hp) (v : V) (t : Str) : Prop := ∃ d : PyData, Dq K H v d ∧ d.showable = true ∧ d.depth ≤ 60 ∧
  d.shown.length ≤ sizeLine ∧ t = d.shown
def rRepV (K : PySem.W.Frag) : List V → Hp → VK → Prop := fun xs H Q => ∃ (v : V) (t : Str), xs = [v] ∧ Shw K H v t ∧ Q (.str t) H
theorem Shw.int {K : PySem.W.Frag} {H : Hp} (i : Int) (h : i.natAbs.log2 < 1920) : Shw K H (.int i) (toString i) :=
  ⟨_, .int i, by simpa [PyData.showable] using h, by simp [PyData.depth], by
    simpa only [PyData.shown] using int_text_fits h, by simp only [PyData.shown]⟩
theorem Shw.str {K : PySem.W.Frag} {H : Hp} (x : Str) (h : (reprText x).length ≤ sizeLine) : Shw K H (.str x) (reprText x) :=
  ⟨_, .str x, by simp [PyData.showable], by simp [PyData.depth], by simpa only [PyData.shown] using h, by simp only [PyData.shown]⟩
theorem call_reprV {X : Cx} (hA : X.A.guards = some []) (hu : X.A.units + 64 < cLine) : CallR X (.builtin "repr") (rRepV X.K) := by
  intro pins s σ H xs us Q I r h
  obtain ⟨v, t, rfl, ⟨d, hd, hs, hdp, hz, rfl⟩, q⟩ := h
  cases hd with
  | non =>
    obtain ⟨u, rfl, ru⟩ := vals1 r
    obtain rfl : u = Value.none := ru
    refine PySem.P.repr_of_none ⟨.str _, H, I.tok _, ⟨_, rfl⟩, ?_⟩
    simpa only [PyData.shown] using q
  | bl b =>
    obtain ⟨u, rfl, ru⟩ := vals1 r
    obtain rfl : u = Value.bool b := ru
    refine PySem.P.repr_of_bool ⟨.str _, H, I.tok _, ⟨_, rfl⟩, ?_⟩
    simpa only [PyData.shown] using q
  | int i =>
    obtain ⟨u, rfl, tk, rfl⟩ := vals1 r
    refine PySem.P.repr_of_int (by simpa [PyData.showable] using hs) ⟨.str _, H, I.tok _, ⟨_, rfl⟩, ?_⟩
    simpa only [PyData.shown] using q
  | str x =>
    obtain ⟨u, rfl, tk, rfl⟩ := vals1 r
    refine PySem.P.repr_of_str ⟨.str _, H, I.tok _, ⟨_, rfl⟩, ?_⟩ (by simpa only [PyData.shown] using hz)
    simpa only [PyData.shown] using q
  | lst h1 h2 => exact call_repq hA hu pins s σ H _ us Q I r ⟨_, _, rfl, .lst h1 h2, hs, hdp, hz, q⟩
  | tup h1 h2 => exact call_repq hA hu pins s σ H _ us Q I r ⟨_, _, rfl, .tup h1 h2, hs, hdp, hz, q⟩
  | dic h1 h2 => exact call_repq hA hu pins s σ H _ us Q I r ⟨_, _, rfl, .dic h1 h2, hs, hdp, hz, q⟩
end L2
namespace L2
open PySem PySem.Spec PyProof.Rows
/-- a def with the code object cdv -/
structure FunC (K : PySem.W.Frag) (x qual : Str) (st : Stmt) (f : Addr) (fd : FuncData) (cdv : Value) : Prop where
  ex : ∃ (oc : Value) (od : Option Addr) (kV doc pm : Value) (an : Option Addr) (ct : Value) (osl : Array (Option Value)),
    fd = PySem.W.fnOf x qual (defArgs st) (defBody st) (defScope st) .none kV doc pm an cdv ct ∧
      K.lookup f = some ⟨oc, od, .func fd, osl⟩ ∧ PySem.W.codeIn K cdv qual = true
  kp : PySem.W.keepIn K (.ref f) = true
section
variable {P : Program} {w : World} {K : PySem.W.Frag} {mg : Str → Option Value} {base : Heap} {k : Nat}
  {f : Addr} {fd : FuncData} {ps : List Str} {sp : Sp} {cdv : Value}
theorem FunC.okG {x qual : Str} {st : Stmt} {N : List Str} (F : FunC K x qual st f fd cdv) (S : FnScope N ps (defScope st))
    (len : ∀ vs H Q E, sp vs H Q E → vs.length = ps.length)
    (hbody : ∀ (A : Around) (outer : List Env) (s : Shared) (H : Hp) (vs : List V) (Q : VK) (E : XK),
      (A.deeper (envOfC qual (defScope st) s.heap.objs.size f cdv)).guards = some [] →
      Room k (A.deeper (envOfC qual (defScope st) s.heap.objs.size f cdv)) → sp vs H Q E →
      ∃ t, PSs (cxOf CX0 P w K mg base N qual (defScope st) f cdv A outer s H E).nox (defBody st) t ∧
        t { nx := fun _ H' => Q .non H', rt := Q } (start N vs) H) :
    FnG P w K mg base CX0 (k + 1) f fd ps sp := by
  obtain ⟨oc, od, kV, doc, pm, an, ct, osl, rfl, lk, hcd⟩ := F.ex
  refine ⟨len, fun A outer s H args us vs Q E hg hr e0 hb r hsp => ?_⟩
  have hl := len _ _ _ _ hsp
  have KX : K.In s.heap := e0.mod.kin.keeps fun b o e => (e0.bs b o e).1
  have lim : s.heap.NoLimit := e0.mod.nolimit.keeps fun b o e => (e0.bs b o e).1
  have kinds : ∀ y ∈ ps.zip us, (defScope st).names.lookup y.1 = some .local ∨
      ((defScope st).names.lookup y.1 = some .cell ∧
        ((cellsFrom (s.heap.objs.size + 1) (defScope st).names []).lookup y.1).isSome = true) := by
    rintro ⟨n, v⟩ hy
    rcases S.par n (List.of_mem_zip hy).1 with q | q
    · exact .inl q
    · exact .inr ⟨q, PySem.W.cellsFrom_some _ _ _ (.inl q)⟩
  refine codeAny_call_function hr.depth (KX _ _ lk) rfl S.co S.gen rfl (PySem.W.codeRec_of KX hcd) (hb _ _ _ _ ?_)
  refine wpAny_newFunctionEnv_cells S.kind kinds fun env he s1 x => ?_
  subst he
  refine ⟨lim.keeps x.toInCall.keep, codeAny_func ?_⟩
  have hg' : (A.deeper (envOfC qual (defScope st) s.heap.objs.size f cdv)).guards = some [] := by
    first
      | exact hg
      | simpa [Around.deeper] using hg
  obtain ⟨t, ht0, hq⟩ := hbody A outer s H vs Q E hg' (hr.deeper _) hsp
  have ht := ht0.nox
  have I : Inv (cxOf CX0 P w K mg base N qual (defScope st) f cdv A outer s H E) [] (start N vs) H s1 :=
    inv_start S hr.hd e0 hl r x
  refine wpAny_mono (ht.run [] s1 (start N vs) H _ I hq) (fun fl s' hs => ?_) fun e s' hs => hs
  have fin : ∀ {σ' : St} {H' : Hp} {v : V} {u : Value},
      Inv (cxOf CX0 P w K mg base N qual (defScope st) f cdv A outer s H E) [] σ' H' s' → RelV v u → Q v H' →
      CE outer P w H s Q u s' := fun J rv q => ⟨_, _, J.os, J.bare, J.base, J.hok, rv, q⟩
  cases fl with
  | ret u =>
    obtain ⟨v, σ', H', J, rv, q⟩ := hs
    exact fin J rv q
  | next =>
    obtain ⟨σ', H', J, q⟩ := hs
    exact fin (v := V.non) (u := Value.none) J rfl q
  | brk =>
    obtain ⟨_, _, _, q⟩ := hs
    exact False.elim q
  | cont =>
    obtain ⟨_, _, _, q⟩ := hs
    exact False.elim q
/-- a def of the top that makes lambdas: its code object's table stands at T -/
def OwnC (K : PySem.W.Frag) (mg : Str → Option Value) (base : Heap) (x : Str) (st : Stmt) (ps : List Str) (T : Addr) : Prop :=
  ∃ f fd c, mg x = some (.ref f) ∧ FunC K x x st f fd (.ref c) ∧ Binds K fd ps [] ∧ LamX.TabB base mg c T
theorem OwnC.ok {x : Str} {st : Stmt} {N : List Str} {T : Addr} (O : OwnC K mg base x st ps T)
    (S : FnScope N ps (defScope st)) (len : ∀ vs H Q E, sp vs H Q E → vs.length = ps.length)
    (hbody : ∀ (f c : Addr) (A : Around) (outer : List Env) (s : Shared) (H : Hp) (vs : List V) (Q : VK)
      (E : XK), LamX.TabB base mg c T → (A.deeper (envOfC x (defScope st) s.heap.objs.size f (.ref c))).guards = some [] →
      Room k (A.deeper (envOfC x (defScope st) s.heap.objs.size f (.ref c))) → sp vs H Q E →
      ∃ t, PSs (cxOf CX0 P w K mg base N x (defScope st) f (.ref c) A outer s H E).nox (defBody st) t ∧
        t { nx := fun _ H' => Q .non H', rt := Q } (start N vs) H) :
    Kp P w K mg base (k + 1) x ps sp := by
  obtain ⟨f, fd, c, hm, F, b, TB⟩ := O
  exact ⟨f, fd, hm, F.kp, b, F.okG S len fun A outer s H vs Q E hg hr h => hbody f c A outer s H vs Q E TB hg hr h⟩
/-- a method's promise -/
def Kme (P : Program) (w : World) (K : PySem.W.Frag) (mg : Str → Option Value) (base : Heap) (C : Addr) (k : Nat) (m : Str) (ps ks : List Str) (sp : Sp) : Prop :=
  ∃ f fd, Meth K C m f ∧ Binds K fd ps [] ∧ KwI fd ps ks ∧ FnOk P w K mg base CX0 k f fd ps sp
end
section
variable {X : Cx} {k j : Nat} {ps ks : List Str} {sp : Sp} {m x : Str} {C : Addr} {o e : Expr} {es : List Expr} {kws : List Keyword} {to tf : TE} {ta : TA} {apos pos p : Pos} {E : XK}
theorem pe_kme {pl : Sem Bool} (F : Kme X.prog X.w X.K X.mg X.base C k m ps ks sp) (c : Cls X.K C) (hr : Room j X.A) (he : PE X o to) (ha : PA X (e :: es) ta)
    (hj : k ≤ j := by decide)
    (hst : starEach (e :: es) X.env = (false, eval e X.env) :: starEach es X.env := by rfl) (hpl : (backTo pos (starEach es X.env)).any (·.1) = false := by rfl)
    (ht : eval (.Call (.Attribute o m apos) (e :: es) [] pos) X.env = (do
      let ov ← eval o X.env
      standAt apos.atName
      let (f, first) ← holding [ov] (getMethod ov m pl)
      callWith pos f first (backTo pos (starEach (e :: es) X.env)) (backToKw pos (keywordEach [] X.env))) := by rfl)
    (hx : Passes CX0 X E0 := by exact pass0) :
    PE X (.Call (.Attribute o m apos) (e :: es) [] pos) (tMeth C m sp [] E0 to ta) := by
  obtain ⟨f, fd, M, b, _, F⟩ := F
  exact pe_meth he c M F (hr.mono hj) b .nil hx ha hst hpl ht
theorem pe_kmeK {pl : Sem Bool} (F : Kme X.prog X.w X.K X.mg X.base C k m ps ks sp) (c : Cls X.K C) (hr : Room j X.A) (he : PE X o to) (hkw : PK X kws ta)
    (hl : ∀ vs H Q E, sp vs H Q E → vs.length = ks.length + 1) (hj : k ≤ j := by decide)
    (hks : (backToKw pos (keywordEach kws X.env)).filterMap (·.1) = ks := by rfl)
    (hall : (backToKw pos (keywordEach kws X.env)).all (·.1.isSome) = true := by rfl)
    (hpl : ((backTo pos (starEach [] X.env)).any (·.1) || (backToKw pos (keywordEach kws X.env)).any (·.1.isNone)) = false := by rfl)
    (ht : eval (.Call (.Attribute o m apos) [] kws pos) X.env = (do
      let ov ← eval o X.env
      standAt apos.atName
      let (f, first) ← holding [ov] (getMethod ov m pl)
      callWith pos f first (backTo pos (starEach [] X.env)) (backToKw pos (keywordEach kws X.env))) := by rfl)
    (hx : Passes CX0 X E0 := by exact pass0) :
    PE X (.Call (.Attribute o m apos) [] kws pos) (tMeth C m sp [] E0 to ta) := by
  obtain ⟨f, fd, M, _, b, F⟩ := F
  exact pe_methKw he c M F (hr.mono hj) b hx hl hkw hks hall hpl ht
end
end L2
namespace L2
open PySem PySem.Spec PyProof.Rows
end L2
namespace L2
open PySem PySem.Spec PyProof.Rows
end L2
namespace L2
open PySem PySem.Spec PyProof.Rows
def noTab : Obj := { cls := .none, data := .fields #[] }
/-- what is tracked ahead of the law's call: the script, if it is new, and the tables -/
structure Ahead (P : Program) (w : World) (K : PySem.W.Frag) (h : Heap) (a : Addr) (xs : List V) (Ts : List Addr) (H : Hp) : Prop where
  tab : ∀ T ∈ Ts, H T = some (.tbl #[])
  few : ∀ b u, H b = some u → (b ∈ Ts ∧ u = .tbl #[]) ∨ (b = a ∧ ∃ o, u = .frz o (.lst xs))
  ok : HOk P w H h
  out : (H a).isSome = true → K.lookup a = none
  sq : SqL K H a xs
section
variable {P : Program} {w : World} {K : PySem.W.Frag} {h : Heap} {a : Addr} {xs : List V} {us : List Value} {Ts : List Addr} {H : Hp}
/-- only a list or a table is tracked -/
theorem Ahead.untracked (A : Ahead P w K h a xs Ts H) (hT : ∀ T ∈ Ts, h.get? T = some noTab) (ha : h.get? a = some { cls := .type "list", data := .seq us.toArray }) {b : Addr} {o : Obj}
    (e : h.get? b = some o) (n1 : ∀ vs n, o.data ≠ .seq vs n) (n2 : o.data ≠ .fields #[]) : H b = none := by
  cases q : H b with
  | none => rfl
  | some u =>
    rcases A.few b u q with ⟨hb, _⟩ | ⟨rfl, _⟩
    · have := (hT b hb).symm.trans e
      obtain rfl := Option.some.inj this
      exact absurd rfl n2
    · have := ha.symm.trans e
      obtain rfl := Option.some.inj this
      exact absurd rfl (n1 _ _)
theorem ahead_ex (KX : K.In h) (hT : ∀ T ∈ Ts, h.get? T = some noTab) (ha : h.get? a = some { cls := .type "list", data := .seq us.toArray }) (rv : Vals xs us) (hl : xs.length ≤ sizeLine) : ∃ H, Ahead P w K h a xs Ts H := by
  have naT : a ∉ Ts := fun z => by
    have := congrArg (Option.map Obj.data) ((hT a z).symm.trans ha)
    cases this
  have tOk : ∀ (H : Hp) {b : Addr}, b ∈ Ts → ObjOk P w H h b (.tbl #[]) := fun H b hb => hT b hb
  have lenV : xs.length = us.length := rv.length
  cases hk : K.lookup a with
  | some o =>
    have e := KX a o hk
    obtain rfl := Option.some.inj (ha.symm.trans e)
    refine ⟨fun b => if b ∈ Ts then some (.tbl #[]) else none, fun T hT' => if_pos hT', fun b u z => ?_, fun b u z => ?_, fun z => ?_, ?_⟩
    · by_cases hb : b ∈ Ts
      · exact .inl ⟨hb, (Option.some.inj ((if_pos hb).symm.trans z)).symm⟩
      · cases (if_neg hb).symm.trans z
    · by_cases hb : b ∈ Ts
      · obtain rfl := Option.some.inj ((if_pos hb).symm.trans z)
        exact tOk _ hb
      · cases (if_neg hb).symm.trans z
    · have : (if a ∈ Ts then some (HO.tbl #[]) else none) = none := if_neg naT
      rw [this] at z
      cases z
    · refine .inr ⟨_, us.toArray, _, hk, rfl, rfl, rfl, ?_, ?_⟩
      · rw [List.size_toArray, ← lenV]
        exact hl
      · simpa using rv
  | none =>
    refine ⟨fun b => if b = a then some (.frz { cls := .type "list", data := .seq us.toArray } (.lst xs)) else if b ∈ Ts then some (.tbl #[]) else none,
      fun T hT' => (if_neg (show ¬ T = a from fun z => naT (by rw [← z]; exact hT'))).trans (if_pos hT'), fun b u z => ?_, fun b u z => ?_, fun _ => hk, .inl (.inr ⟨_, if_pos rfl⟩)⟩
    · by_cases hb : b = a
      · exact .inr ⟨hb, _, (Option.some.inj ((if_pos hb).symm.trans z)).symm⟩
      · have z := (if_neg hb).symm.trans z
        by_cases hb2 : b ∈ Ts
        · exact .inl ⟨hb2, (Option.some.inj ((if_pos hb2).symm.trans z)).symm⟩
        · cases (if_neg hb2).symm.trans z
    · by_cases hb : b = a
      · obtain rfl := Option.some.inj ((if_pos hb).symm.trans z)
        subst hb
        exact ⟨ha, hl, us, _, rv, ha⟩
      · have z := (if_neg hb).symm.trans z
        by_cases hb2 : b ∈ Ts
        · obtain rfl := Option.some.inj ((if_pos hb2).symm.trans z)
          exact tOk _ hb2
        · cases (if_neg hb2).symm.trans z
end
/-- the law's call, its guards known, with tables -/
theorem law_callTG {P : Program} {w : World} {K : PySem.W.Frag} {mg mb : Str → Option Value} {k : Nat} {fa a : Addr} {cs : List (Addr × Addr)}
    {fd : FuncData} {x : Str} {sp : Sp} {s1 : Shared} {vs : List Value} {ns : List Int}
    (KX : K.In s1.heap) (hns : s1.heap.Ns mainGlobals mg) (hb : s1.heap.Ns builtinsNs mb)
    (hbb : ∀ y : Str, y ≠ "__name__" → mb y = bootBuiltins y) (hlim : s1.heap.NoLimit) (hg : s1.gens = #[])
    (hT : ∀ p ∈ cs, s1.heap.get? p.2 = some noTab) (nT : ∀ p ∈ cs, K.lookup p.2 = none) (hC : ∀ p ∈ cs, PySem.W.CodeHd s1.heap p.1 p.2)
    (hbm : ∃ bm ob, mg "__builtins__" = some (.ref bm) ∧ bm ≠ builtinsNs ∧ s1.heap.get? bm = some ob ∧ ob.cls = .type "module" ∧ ob.dict = some builtinsNs ∧ ob.data = .plain)
    (ha : s1.heap.get? a = some { cls := .type "list", data := .seq vs.toArray }) (hi : IntsAre vs ns)
    (hl : ns.length ≤ sizeLine) (hr : Room k callerA)
    (F : ∀ base : Heap, K.In base → base.Ns mainGlobals mg → (∀ p ∈ cs, LamX.TabB base mg p.1 p.2) → FnG P w K mg base CX0 k fa fd [x] sp)
    (hbind : ∀ (s : Shared) (u : Value), BindsTo s fd ⟨[u], []⟩ [(x, u)])
    (hsp : ∀ H : Hp, (∀ p ∈ cs, H p.2 = some (.tbl #[])) → SqL K H a (ns.map V.int) → sp [.ref a] H (fun v _ => v = .bl true) E0) :
    codeAny (model P w) callerA (.call (.ref fa) ⟨[.ref a], []⟩)
      (fun r s' => r = .ok (.ret (.bool true)) ∧ OldK s1.heap s'.heap ∧ s'.os = s1.os ∧ AllBare s'.gens) s1 := by
  have hTs : ∀ T ∈ cs.map (·.2), s1.heap.get? T = some noTab := fun T h => by
    obtain ⟨p, hp, rfl⟩ := List.mem_map.mp h
    exact hT p hp
  have mT : ∀ {p : Addr × Addr}, p ∈ cs → p.2 ∈ cs.map (·.2) := fun hp => List.mem_map.mpr ⟨_, hp, rfl⟩
  obtain ⟨H, A⟩ := ahead_ex (P := P) (w := w) KX hTs ha (vals_ints hi) (by rw [List.length_map]; exact hl)
  have un0 : ∀ {b : Addr} {o : Obj}, s1.heap.get? b = some o → (∀ us n, o.data ≠ .seq us n) → o.data ≠ .fields #[] → (hidT s1.heap H).get? b = some o :=
    fun e n1 n2 => hidT_get e (A.untracked hTs ha e n1 n2)
  have nsK : ∀ {b : Addr} {m : Str → Option Value}, s1.heap.Ns b m → (hidT s1.heap H).Ns b m := by
    rintro b m ⟨o, es, ep, e, d, r⟩
    exact ⟨o, es, ep, un0 e (fun _ _ z => by rw [d] at z; cases z) (fun z => by rw [d] at z; cases z), d, r⟩
  have KB : K.In (hidT s1.heap H) := fun b o e => by
    refine hidT_get (KX b o e) ?_
    cases q : H b with
    | none => rfl
    | some u =>
      rcases A.few b u q with ⟨hb, _⟩ | ⟨rfl, _⟩
      · obtain ⟨p, hp, rfl⟩ := List.mem_map.mp hb
        rw [nT p hp] at e
        cases e
      · rw [A.out (by rw [q]; rfl)] at e
        cases e
  have hM : Mod K mg (hidT s1.heap H) := by
    obtain ⟨mc, h1, h2⟩ := hlim
    exact ⟨KB, nsK hns, ⟨mb, nsK hb, hbb⟩, mc, nsK h1, h2⟩
  have notG : ∀ {b : Addr} {o : Obj}, s1.heap.get? b = some o → (∀ es ep, o.data ≠ .dict es ep) → b ≠ mainGlobals := fun e n z => by
    obtain ⟨o', es, ep, e', d, _⟩ := hns
    rw [z, e'] at e
    obtain rfl := Option.some.inj e
    exact n _ _ d
  have TB : ∀ p ∈ cs, LamX.TabB (hidT s1.heap H) mg p.1 p.2 := fun p hp => by
    refine ⟨?_, ?_, (notG (hT p hp) fun _ _ z => by cases z).symm⟩
    · obtain ⟨o, us, f1, f2, f3, f4, f5, f6, f7, e1, r1, r2, r3, rest⟩ := hC p hp
      refine ⟨o, us, f1, f2, f3, f4, f5, f6, f7, un0 e1 (fun _ _ z => by rw [r2] at z; cases z) (fun z => ?_), r1, r2, r3, rest⟩
      rw [r2] at z
      cases z
      simp at r3
    · obtain ⟨bm, ob, b1, b2, b3, b4, b5, b6⟩ := hbm
      have nP : bm ≠ p.2 := fun z => by
        rw [z, hT p hp] at b3
        obtain rfl := Option.some.inj b3
        cases b6
      exact ⟨bm, ob, b1, b2, notG b3 (fun _ _ z => by rw [b6] at z; cases z), nP, un0 b3 (fun _ _ z => by rw [b6] at z; cases z) (fun z => by rw [b6] at z; cases z), b4, b5, b6⟩
  have e0 : Env0 P w K mg (hidT s1.heap H) callerA [] s1 H :=
    ⟨rfl, hM, fun b o e => of_hidT e, Nat.le_of_eq (hidT_size _ _), trivial, fun b hb => absurd (show b ∈ ([] : List Addr) from hb) (by simp), A.ok, .of_eq hg⟩
  refine codeAny_mono ((F _ KB (nsK hns) TB).run callerA [] s1 H ⟨[.ref a], []⟩ [.ref a] [.ref a] _ _ rfl hr e0
    (hbind s1 (.ref a)) (.cons rfl .nil) (hsp H (fun p hp => A.tab _ (mT hp)) A.sq)) fun r s' hq => ?_
  match r, hq with
  | .error e, hq => exact hq.elim
  | .ok .next, hq => exact False.elim hq
  | .ok .brk, hq => exact False.elim hq
  | .ok .cont, hq => exact False.elim hq
  | .ok (.ret u), hq =>
    obtain ⟨v, H', os, bare, un, hok', r', q⟩ := hq
    obtain rfl : v = .bl true := q
    obtain rfl : u = Value.bool true := r'
    have kept : ∀ b o, s1.heap.get? b = some o → s'.heap.get? b = some o ∨ (b ∈ cs.map (·.2) ∧ ∃ more : Array Value, s'.heap.get? b = some { cls := .none, data := .fields more }) := fun b o e => by
      cases q : H b with
      | none => exact .inl (un.keep b o e q (fun z => absurd (show b ∈ ([] : List Addr) from z) (by simp)) (by simp))
      | some u =>
        rcases A.few b u q with ⟨hb, rfl⟩ | ⟨_, ob, rfl⟩
        · obtain ⟨more, z⟩ := un.tbls b #[] q
          exact .inr ⟨hb, _, hok' b _ z⟩
        · obtain ⟨e1, _⟩ := A.ok b _ q
          obtain ⟨e2, _⟩ := hok' b _ (un.frzs b ob _ q)
          obtain rfl := Option.some.inj (e.symm.trans e1)
          exact .inl e2
    refine ⟨rfl, ⟨fun b o e => ?_, fun b o e => ?_⟩, os, bare⟩
    · rcases kept b o e with z | ⟨hb, more, z⟩
      · exact .inl z
      · obtain ⟨p, hp, rfl⟩ := List.mem_map.mp hb
        obtain rfl := Option.some.inj (e.symm.trans (hT p hp))
        exact .inr (.inl ⟨((hC p hp).tab (hT p hp)).isCodeTable, rfl, #[], more, rfl, by rw [Array.empty_append]; exact z⟩)
    · rcases kept b o e with z | ⟨_, more, z⟩
      · exact ⟨_, z⟩
      · exact ⟨_, z⟩
/-- the def under the name x: its code object is at c, with the table at T, still empty -/
def TabOf (mg : Str → Option Value) (h : Heap) (x : Str) (c T : Addr) : Prop := ∃ f o fd, mg x = some (.ref f) ∧ h.get? f = some o ∧ o.data = .func fd ∧ fd.code = .ref c ∧ PySem.W.CodeHd h c T ∧ h.get? T = some noTab
/-- no table is among the written objects -/
def tabless (K : PySem.W.Frag) : Bool := K.all fun p => match p.2 with
  | ⟨.none, _, .fields vs, _⟩ => !(vs.size == 0)
  | _ => true
theorem lookup_mem {K : PySem.W.Frag} {b : Addr} {o : Obj} : K.lookup b = some o → (b, o) ∈ K := by
  induction K with
  | nil => intro h; cases h
  | cons p r ih =>
    obtain ⟨c, x⟩ := p
    intro h
    simp only [List.lookup] at h
    split at h
    · rename_i q
      cases h
      rw [beq_iff_eq.mp q]
      exact List.mem_cons_self
    · exact List.mem_cons_of_mem _ (ih h)
theorem tabless_none {K : PySem.W.Frag} {h : Heap} {T : Addr} (KX : K.In h) (t : tabless K = true) (e : h.get? T = some noTab) : K.lookup T = none := by
  cases q : K.lookup T with
  | none => rfl
  | some o =>
    have e1 := KX T o q
    obtain rfl := Option.some.inj (e.symm.trans e1)
    have := List.all_eq_true.mp t _ (lookup_mem q)
    cases this
theorem walk_ofTG {l : PySem.W.OpenLaw} {n k : Nat} {q : Program} {loose : List Str}
    {XP : (Str → Option Value) → Heap → Prop} {YP : World → Heap → Prop} {d : DefRec} {K : Params → PySem.W.Frag}
    {x : Str} (names : List Str) (hn : l.most = some n) (hn2 : n ≤ sizeLine) (hdf : d.params.defaults = [])
    (hrec : (names.all fun y => (recsOf q).any fun e => e.name == y) = true)
    (hr : Room k callerA) (hY : ∀ (w : World) (h : Heap), YP w h → (K w.params).In h)
    (F : ∀ (w : World) (mg : Str → Option Value) (fa : Addr) (h : Heap), (K w.params).In h → h.Ns mainGlobals mg → mg d.name = some (.ref fa) → (∀ y ∈ names, ∃ c T, TabOf mg h y c T) →
      ∃ (fd : FuncData) (cs : List (Addr × Addr)) (sp : Sp), (∀ p ∈ cs, ∃ y, TabOf mg h y p.1 p.2) ∧ (∀ p ∈ cs, (K w.params).lookup p.2 = none) ∧
        (∀ (s : Shared) (u : Value), BindsTo s fd ⟨[u], []⟩ [(x, u)]) ∧
        (∀ (H : Hp) (a : Addr) (ns : List Int), ns.length ≤ n → (∀ p ∈ cs, H p.2 = some (.tbl #[])) → SqL (K w.params) H a (ns.map V.int) → sp [.ref a] H (fun v _ => v = .bl true) E0) ∧
        ∀ base : Heap, (K w.params).In base → base.Ns mainGlobals mg → (∀ p ∈ cs, LamX.TabB base mg p.1 p.2) → FnG l.prog w (K w.params) mg base CX0 k fa fd [x] sp) :
    PySem.W.WalkO q loose XP YP l.row.toRowW d [] (fun f vs => PySem.call f vs) := by
  refine Att.attach_call hn hdf fun w s0 s1 mg mb fa o pm cd doc a vs ns G Y ho hd hcd hmg hobj hints hlen hg => ?_
  have KX := hY w _ Y
  have tabs : ∀ y ∈ names, ∃ c T, TabOf mg s1.heap y c T := fun y hy => by
    obtain ⟨dL, hm, e⟩ := List.any_eq_true.mp (List.all_eq_true.mp hrec y hy)
    obtain ⟨f, o', fd', c, T, h1, h2, h3, h4, h5, h6⟩ := G.T.tab dL hm
    rw [beq_iff_eq.mp e] at h1
    exact ⟨c, T, f, o', fd', h1, h2, h3, h4, .of h5 h6, h6.2⟩
  obtain ⟨fd, cs, sp, h1, h2, h3, h4, h5⟩ := F w mg fa _ KX G.T.g hmg tabs
  refine law_callTG KX G.T.g G.T.b G.T.builtins G.T.nolimit hg (fun p hp => ?_) h2 (fun p hp => ?_) G.T.bmain hobj hints (Nat.le_trans hlen hn2) hr h5 h3 fun H hH hS => h4 H a ns hlen hH hS
  · obtain ⟨_, _, _, _, _, _, _, _, _, e⟩ := h1 p hp
    exact e
  · obtain ⟨_, _, _, _, _, _, _, _, e, _⟩ := h1 p hp
    exact e
end L2
namespace L2
open PySem PySem.Spec PyProof.Rows
/-- an error class with one __init__, made over ValueError -/
def oexB (K : PySem.W.Frag) (C : Addr) : Bool := match K.lookup C with
  | some ⟨.type t, _, .cls cd, sl⟩ => decide (t = "type") && (cd.hasDict && (!cd.hasDel && (match cd.mro, sl.toList with
    | .ref C1 :: bm, [_, _, _, _, some (.builtin n), _] => decide (C1 = C) && (decide (n = "ValueError.__new__") &&
        PySem.HandSPX.refsVE bm)
    | _, _ => false)))
  | _ => false
def xclB (K : PySem.W.Frag) (C : Addr) : Bool :=
  decide (PySem.W.subIn K (.ref C) (.type "BaseException") = some true) &&
  (decide (PySem.W.findIn K (.ref C) "__getattribute__" = some (some (.builtin "BaseException.__getattribute__"))) &&
  (decide (PySem.W.findIn K (.ref C) "__getattr__" = some none) && (PySem.W.hasDictIn K C &&
  ((PySem.W.clsIn K C).isSome &&
  (decide (PySem.W.findIn K (.ref C) "__class__" = some (some (.builtin "object.__class__"))) &&
  (decide (PySem.W.specialIn K (.builtin "object.__class__") "__get__" = some (some (.builtin "getset_descriptor.__get__"))) &&
  (decide (PySem.W.takesIn K (.builtin "object.__class__") = some true) &&
  decide (PySem.W.mroIn K C (.type "object") = some true))))))))
def restB (K : PySem.W.Frag) (C : Addr) : Bool :=
  decide (PySem.W.findIn K (.ref C) "__setattr__" = some (some (.builtin "object.__setattr__"))) &&
  (decide (PySem.W.typeIn K (.ref C) = some (.type "type")) && PySem.W.keepIn K (.ref C))
section
variable {K : PySem.W.Frag} {mg : Str → Option Value} {h : Heap} {C : Addr}
theorem xcl_of (b : xclB K C = true) : XCl K C := by
  unfold xclB at b
  simp only [Bool.and_eq_true, decide_eq_true_eq] at b
  obtain ⟨b2, b5, b6, b7, b8, b9, b10, b11, b12⟩ := b
  exact ⟨b5, b6, b2, b7, b8, b9, b10, b11, b12⟩
theorem oexC_of (a : oexB K C = true) (x : xclB K C = true) (b : restB K C = true) : OexC K C := by
  have x := xcl_of x
  unfold restB at b
  simp only [Bool.and_eq_true, decide_eq_true_eq] at b
  obtain ⟨b1, b3, b4⟩ := b
  refine ⟨?_, b1, x.ex, b3, b4⟩
  unfold oexB at a
  split at a
  · rename_i t dd cd sl ho
    simp only [Bool.and_eq_true, decide_eq_true_eq, Bool.not_eq_true'] at a
    obtain ⟨a1, a2, a3, a4⟩ := a
    split at a4
    · rename_i C1 bm k0 k1 k2 k3 n k5 hm hs
      simp only [Bool.and_eq_true, decide_eq_true_eq] at a4
      obtain ⟨a5, a6, a7⟩ := a4
      subst a1 a5 a6
      obtain ⟨nm, bs, mro, ns, qn, hd, sn, sub, ab, col, del⟩ := cd
      dsimp only at hm a2 a3
      subst hm a2 a3
      obtain ⟨ls⟩ := sl
      dsimp only at hs
      subst hs
      exact ⟨nm, qn, ns, bs, bm, sn, sub, ab, col, dd, k0, k1, k2, k3, k5, ho, a7⟩
    · cases a4
  · cases a
/-- an error class under its name, with such fields -/
def errB (K : PySem.W.Frag) (x : Str) (fs : List Str) : Bool := match PySem.W.nsIn K mainGlobals x with
  | some (some (.ref C)) => oexB K C && (xclB K C && (restB K C && fs.all fun f => decide (PySem.W.findIn K (.ref C) f = some none)))
  | _ => false
/-- an error class, told apart -/
def exB (K : PySem.W.Frag) (fs : List Str) (x : Str) : Bool := match PySem.W.nsIn K mainGlobals x with
  | some (some (.ref C)) => xclB K C && fs.all fun f => decide (PySem.W.findIn K (.ref C) f = some none)
  | _ => false
theorem errK_of {x : Str} {fs : List Str} (X : K.In h) (G : h.Ns mainGlobals mg) (c : errB K x fs = true) : ErrK K mg x fs := by
  unfold errB at c
  split at c
  · rename_i C hC
    simp only [Bool.and_eq_true, List.all_eq_true, decide_eq_true_eq] at c
    obtain ⟨c1, c2, c3, c4⟩ := c
    have e := PySem.W.mg_of X G hC
    have ea := adr_of e
    exact ⟨by rw [ea]; exact e, by rw [ea]; exact oexC_of c1 c2 c3, by rw [ea]; exact xcl_of c2, by rw [ea]; exact c4⟩
  · cases c
theorem ex_of {x : Str} {fs : List Str} (X : K.In h) (G : h.Ns mainGlobals mg) (c : exB K fs x = true) :
    mg x = some (.ref (adr mg x)) ∧ XCl K (adr mg x) ∧ ∀ f ∈ fs, PySem.W.findIn K (.ref (adr mg x)) f = some none := by
  unfold exB at c
  split at c
  · rename_i C hC
    simp only [Bool.and_eq_true, List.all_eq_true, decide_eq_true_eq] at c
    have e := PySem.W.mg_of X G hC
    have ea := adr_of e
    rw [ea]
    exact ⟨e, xcl_of c.1, c.2⟩
  · cases c
def kitNB (K : PySem.W.Frag) (x : Str) (c : Value) (b : Bool) : Bool := match PySem.W.nsIn K mainGlobals x with
  | some (some (.ref C)) => decide (PySem.W.kitOne K (.ref C) c = some b)
  | _ => false
def kitNB2 (K : PySem.W.Frag) (x y : Str) (b : Bool) : Bool := match PySem.W.nsIn K mainGlobals y with
  | some (some (.ref C)) => kitNB K x (.ref C) b
  | _ => false
def exmB2 (K : PySem.W.Frag) (x y : Str) (b : Bool) : Bool := match PySem.W.nsIn K mainGlobals y with
  | some (some (.ref C)) => (match PySem.W.nsIn K mainGlobals x with
    | some (some (.ref C2)) => decide (PySem.W.exmOne K (.ref C2) (.ref C) = some b)
    | _ => false)
  | _ => false
theorem kit_of1 {x : Str} {c : Value} {b : Bool} (X : K.In h) (G : h.Ns mainGlobals mg) (e : kitNB K x c b = true) :
    PySem.W.kitOne K (.ref (adr mg x)) c = some b := by
  unfold kitNB at e
  split at e
  · rename_i C hC
    rw [adr_of (PySem.W.mg_of X G hC)]
    simpa using e
  · cases e
theorem kit_of2 {x y : Str} {b : Bool} (X : K.In h) (G : h.Ns mainGlobals mg) (e : kitNB2 K x y b = true) :
    PySem.W.kitOne K (.ref (adr mg x)) (.ref (adr mg y)) = some b := by
  unfold kitNB2 at e
  split at e
  · rename_i C hC
    rw [adr_of (PySem.W.mg_of X G hC)]
    exact kit_of1 X G e
  · cases e
theorem exm_of2 {x y : Str} {b : Bool} (X : K.In h) (G : h.Ns mainGlobals mg) (e : exmB2 K x y b = true) :
    PySem.W.exmOne K (.ref (adr mg x)) (.ref (adr mg y)) = some b := by
  unfold exmB2 at e
  split at e
  · rename_i C hC
    split at e
    · rename_i C2 hC2
      rw [adr_of (PySem.W.mg_of X G hC), adr_of (PySem.W.mg_of X G hC2)]
      simpa using e
    · cases e
  · cases e
/-- an own class with attributes alone, some of them named -/
def ownB (K : PySem.W.Frag) (fs : List Str) (C : Addr) : Bool :=
  PySem.W.plainGet K C Str.empty && (PySem.W.hasDictIn K C && (PySem.W.plainOver K C &&
  (decide (PySem.W.findIn K (.ref C) "__setattr__" = some (some (.builtin "object.__setattr__"))) &&
  ((fs.all fun f => decide (PySem.W.findIn K (.ref C) f = some none)) && (PySem.W.makesIn K C && PySem.W.keepIn K (.ref C))))))
theorem own_of {fs : List Str} (c : ownB K fs C = true) : Cls K C ∧ (∀ f ∈ fs, NoAttr K C f) ∧ PySem.W.makesIn K C = true ∧ PySem.W.keepIn K (.ref C) = true := by
  unfold ownB at c
  simp only [Bool.and_eq_true, List.all_eq_true, decide_eq_true_eq] at c
  obtain ⟨c1, c2, c3, c4, c5, c6, c7⟩ := c
  exact ⟨⟨c1, c2, c3, c4⟩, c5, c6, c7⟩
/-- a def of a class, no default -/
theorem mdef {x q : Str} {st : Stmt} {f : Addr} {od an : Option Addr} {sl : Array (Option Value)} {oc kV dc pm cd ct : Value}
    (l : K.lookup f = some ⟨oc, od, .func (PySem.W.fnOf x q (defArgs st) (defBody st) (defScope st) .none kV dc pm an cd ct), sl⟩)
    (c : PySem.W.codeIn K cd q = true) (k : PySem.W.keepIn K (.ref f) = true) :
    MD K x q st [] f (PySem.W.fnOf x q (defArgs st) (defBody st) (defScope st) .none kV dc pm an cd ct) :=
  ⟨⟨oc, od, .none, kV, dc, pm, an, cd, ct, sl, rfl, l, c, .inl ⟨rfl, rfl⟩, .inl rfl⟩, k⟩
/-- the code object of the def under x is the one whose table is told -/
theorem tab_code {x : Str} {st : Stmt} {f c T : Addr} {od an : Option Addr} {sl : Array (Option Value)} {oc kV dc pm cd ct : Value} (X : K.In h) (G : h.Ns mainGlobals mg)
    (a : PySem.W.nsIn K mainGlobals x = some (some (.ref f)))
    (l : K.lookup f = some ⟨oc, od, .func (PySem.W.fnOf x x (defArgs st) (defBody st) (defScope st) .none kV dc pm an cd ct), sl⟩) (t : TabOf mg h x c T) : cd = .ref c := by
  obtain ⟨f', o, fd, h1, h2, h3, h4, _⟩ := t
  obtain rfl : f = f' := Value.ref.inj (Option.some.inj ((PySem.W.mg_of X G a).symm.trans h1))
  obtain rfl := Option.some.inj ((X _ _ l).symm.trans h2)
  obtain rfl := Data.func.inj h3
  exact h4
theorem funC_mk {x : Str} {st : Stmt} {f c : Addr} {od an : Option Addr} {sl : Array (Option Value)} {oc kV dc pm cd ct : Value}
    (l : K.lookup f = some ⟨oc, od, .func (PySem.W.fnOf x x (defArgs st) (defBody st) (defScope st) .none kV dc pm an cd ct), sl⟩)
    (hc : PySem.W.codeIn K cd x = true) (k : PySem.W.keepIn K (.ref f) = true) (e : cd = .ref c) :
    FunC K x x st f (PySem.W.fnOf x x (defArgs st) (defBody st) (defScope st) .none kV dc pm an cd ct) (.ref c) := by
  subst e
  exact ⟨⟨oc, od, kV, dc, pm, an, ct, sl, rfl, l, hc⟩, k⟩
end
end L2
namespace L2
open PySem PySem.Spec PyProof.Rows
structure GetM (K : PySem.W.Frag) (C f : Addr) : Prop where
  at_ : PySem.W.findIn K (.ref C) "__getitem__" = some (some (.ref f))
  fn : PySem.W.fnIn K f = true
  isf : PySem.W.isFn K (.ref f) = true
def rOwnIx (C : Addr) (sp : Sp) (E : XK) : R2 := fun x y H Q => ∃ (a dx : Addr) (fs : List (Str × V)), x = .ref a ∧ H a = some (.ins C dx fs) ∧ sp [.ref a, y] H Q E
/-- what o[e] keeps; it may raise -/
def KgeX (P : Program) (w : World) (K : PySem.W.Frag) (mg : Str → Option Value) (base : Heap) (C : Addr) (k : Nat) (ps : List Str) (sp : Sp) : Prop :=
  ∃ f fd, GetM K C f ∧ Binds K fd ps [] ∧ FnOk P w K mg base (L2.CX P w) k f fd ps sp
section
variable {X : Cx} {k j : Nat} {ps : List Str} {sp : Sp} {C : Addr} {a b : Expr} {ta tb : TE} {pos : Pos} {E : XK}
theorem pe_kge (G : KgeX X.prog X.w X.K X.mg X.base C k ps sp) (hr : Room j X.A) (hx : Passes (L2.CX X.prog X.w) X E) (ha : PE X a ta) (hb : PE X b tb) (hj : k + 1 ≤ j := by decide)
    (hsl : ∀ x i, subscripted b true (.ref x) i = runValue (.builtin "lifetime.subscript" ⟨[.ref x, i], []⟩) := by intro _ _; with_unfolding_all rfl) :
    PE X (.Subscript a b pos) (tOp (rOwnIx C sp E) ta tb) := by
  obtain ⟨f, fd, M, bs, F⟩ := G
  refine ⟨fun pins s σ H Q I h => ?_⟩
  refine Subscript_ (binT ha hb I h fun v u s2 x y H2 I2 rx ry q => ?_)
  obtain ⟨o, dx, fs, rfl, eo, hsp⟩ := q
  obtain rfl : v = Value.ref o := rx
  obtain ⟨m, fr⟩ := I2.fr
  obtain ⟨od, O⟩ := ins_at I2 eo
  have r1 : Room k X.A.in1 := by
    have z := hr.mono hj
    exact ⟨z.hd, by have := z.dp; show X.A.depth + 3 * k + 5 < recursionLimit; omega, by have := z.un; show X.A.units + 1 + 16 * k + 200 < cLine; omega⟩
  have e0 := I2.env0
  have e1 : Env0 X.prog X.w X.K X.mg X.base X.A.in1 X.stack s2 H2 := ⟨e0.frames, e0.mod, e0.bs, e0.bsz, e0.funs, e0.frf, e0.hok, e0.bare⟩
  have rr : Vals [.ref o, y] [Value.ref o, u] := .cons rfl (.cons ry .nil)
  refine PySem.W.sub_K fr I2.ok.mod.kin O M.at_ M.fn M.isf ?_ (hsl _ _)
  have hl := F.len _ _ _ _ hsp
  refine wpAny_call (codeAny_mono (F.run X.A.in1 X.stack s2 H2 ⟨[.ref o, u], []⟩ [.ref o, u] [.ref o, y] Q E r1 e1 ?_ rr hsp) fun r s' hq => ?_)
  · have := bs s2 [.ref o, u] I2.kIn (by simpa using hl)
    simpa using this
  cases r with
  | error e => exact hx pins σ H2 s2 e s' I2 hq
  | ok fl =>
    cases fl with
    | ret u => exact I2.after hq
    | next => exact False.elim hq
    | brk => exact False.elim hq
    | cont => exact False.elim hq
end
end L2
namespace L2
open PySem PySem.Spec PyProof.Rows
end L2
namespace L2
open PySem PySem.Spec PyProof.Rows
end L2
namespace L2
open PySem PySem.Spec PyProof.Rows
end L2
namespace L2
open PySem PySem.Spec PyProof.Rows
def rLenO (C : Addr) (sp : Sp) : List V → Hp → VK → Prop := fun xs H Q => ∃ (a dx : Addr) (fs : List (Str × V)), xs = [.ref a] ∧ H a = some (.ins C dx fs) ∧
  sp [.ref a] H (fun v H' => ∃ n : Nat, v = .int n ∧ n < 2 ^ 62 ∧ Q (.int n) H') E0
section
variable {X : Cx} {k j : Nat} {sp : Sp} {C : Addr}
theorem call_lenO (G : Kop X.prog X.w X.K X.mg X.base C k "__len__" ["self"] sp) (hr : Room j X.A) (hj : k + 1 ≤ j := by decide) (hx : Passes CX0 X E0 := by exact pass0) :
    CallR X (.builtin "len") (rLenO C sp) := by
  obtain ⟨f, fd, hs, hf, bs, F⟩ := G
  intro pins s σ H xs us Q I r h
  obtain ⟨o, dx, fs, rfl, eo, hsp⟩ := h
  obtain ⟨u, rfl, ru⟩ := vals1 r
  obtain rfl : u = Value.ref o := ru
  obtain ⟨m, fr⟩ := I.fr
  obtain ⟨od, O⟩ := ins_at I eo
  have r1 : Room k X.A.in1 := by
    have z := hr.mono hj
    exact ⟨z.hd, by have := z.dp; show X.A.depth + 3 * k + 5 < recursionLimit; omega, by have := z.un; show X.A.units + 1 + 16 * k + 200 < cLine; omega⟩
  have e0 := I.env0
  have e1 : Env0 X.prog X.w X.K X.mg X.base X.A.in1 X.stack s H := ⟨e0.frames, e0.mod, e0.bs, e0.bsz, e0.funs, e0.frf, e0.hok, e0.bare⟩
  have rr : Vals [.ref o] [Value.ref o] := .cons rfl .nil
  refine PySem.W.len_K fr I.ok.mod.kin O hs hf ?_
  have hl := F.len _ _ _ _ hsp
  refine wpAny_call (codeAny_mono (F.run X.A.in1 X.stack s H ⟨[.ref o], []⟩ [.ref o] [.ref o] _ E0 r1 e1 ?_ rr hsp) fun r s' hq => ?_)
  · have := bs s [.ref o] I.kIn (by simpa using hl)
    simpa using this
  cases r with
  | error e => exact hx pins σ H s e s' I hq
  | ok fl =>
    cases fl with
    | ret u =>
      obtain ⟨v, H', I', rv, n, rfl, small, q⟩ := I.after hq
      obtain ⟨t, rfl⟩ := (show ∃ t, u = Value.int n t from rv)
      refine ⟨⟨by omega, by omega⟩, .int n, H', I'.tok _, ⟨_, rfl⟩, q⟩
    | next => exact False.elim hq
    | brk => exact False.elim hq
    | cont => exact False.elim hq
end
end L2
namespace L2
open PySem PySem.Spec PyProof.Rows
open PySem.AutoSeq1 (wpAny_loadPart')
end L2
namespace L2
open PySem PySem.Spec PyProof.Rows
/-- x in o by the class's own __contains__, which answers a bool -/
def rInO (C : Addr) (sp : Sp) (neg : Bool) : R2 := fun x y H Q => ∃ (a dx : Addr) (fs : List (Str × V)), y = .ref a ∧ H a = some (.ins C dx fs) ∧
  sp [.ref a, x] H (fun v H' => ∃ k, v = .bl k ∧ Q (.bl (if neg then !k else k)) H') E0
section
variable {X : Cx} {k j : Nat} {sp : Sp} {C : Addr}
theorem op_inO (G : Kop X.prog X.w X.K X.mg X.base C k "__contains__" ["self", "x"] sp) (hr : Room j X.A) (hj : k ≤ j := by decide) (hx : Passes CX0 X E0 := by exact pass0) :
    OpR X (compareOp .In) (rInO C sp false) := by
  obtain ⟨f, fd, hs, hf, bs, F⟩ := G
  intro pins s σ H x y v u Q I rx ry h
  obtain ⟨o, dx, fs, rfl, eo, hsp⟩ := h
  obtain rfl : u = Value.ref o := ry
  obtain ⟨m, fr⟩ := I.fr
  obtain ⟨od, O⟩ := ins_at I eo
  refine PySem.W.in_K fr I.ok.mod.kin O hs hf ?_
  refine wpAny_mono (run_fn (us := [.ref o, v]) (vs := [.ref o, x]) (ds := []) (dvs := []) F (hr.mono hj) bs .nil hx I (.cons rfl (.cons rx .nil)) hsp) (fun r s' z => ?_) fun _ _ z => z
  obtain ⟨w2, H2, I2, rr, b, eb, q⟩ := z
  subst eb
  have er : r = Value.bool b := rr
  subst er
  exact wpAny_truthy_bool ⟨.bl b, H2, I2, rfl, by simpa using q⟩
theorem op_notInO (G : Kop X.prog X.w X.K X.mg X.base C k "__contains__" ["self", "x"] sp) (hr : Room j X.A) (hj : k ≤ j := by decide) (hx : Passes CX0 X E0 := by exact pass0) :
    OpR X (compareOp .NotIn) (rInO C sp true) := by
  obtain ⟨f, fd, hs, hf, bs, F⟩ := G
  intro pins s σ H x y v u Q I rx ry h
  obtain ⟨o, dx, fs, rfl, eo, hsp⟩ := h
  obtain rfl : u = Value.ref o := ry
  obtain ⟨m, fr⟩ := I.fr
  obtain ⟨od, O⟩ := ins_at I eo
  refine PySem.W.notIn_K fr I.ok.mod.kin O hs hf ?_
  refine wpAny_mono (run_fn (us := [.ref o, v]) (vs := [.ref o, x]) (ds := []) (dvs := []) F (hr.mono hj) bs .nil hx I (.cons rfl (.cons rx .nil)) hsp) (fun r s' z => ?_) fun _ _ z => z
  obtain ⟨w2, H2, I2, rr, b, eb, q⟩ := z
  subst eb
  have er : r = Value.bool b := rr
  subst er
  exact wpAny_truthy_bool ⟨.bl (!b), H2, I2, rfl, by simpa using q⟩
end
end L2
namespace L2
open PySem PySem.Spec PyProof.Rows PySem.SeqAt PySem.MeetsSeq
section
variable {A : Around} {s : Shared}
theorem str_eq_declines_dict (b : Str) (u : Tok) (l : Addr) (o : Obj) (es : Array DictEntry) (ep : Nat) (hd : o.data = .dict es ep) :
    Meets (Builtin.«str.__eq__» ⟨[.str b u, .ref l], []⟩) (fun _ R s => s.heap.get? l = some o ∧ R (.ok (.ret .notImplemented)) s) := by
  obtain ⟨c, dd, dt, sl⟩ := o
  cases hd
  exact .of_wp fun prog w A R s h => by
    obtain ⟨hp, g, d, tk, os⟩ := s
    obtain ⟨hl, h⟩ := h
    wp_walk using wpAny_load hl
    exact ⟨_, rfl, h⟩
theorem EqAt.str_dict {l : Addr} {o : Obj} {es : Array DictEntry} {ep : Nat} (b : Str) (u : Tok) (ho : s.heap.get? l = some o) (hc : o.cls = .type "dict") (hd : o.data = .dict es ep) (hu : A.units < cLine) :
    EqAt A s (.str b u) (.ref l) false := fun prog w E Q h => by
  unfold eqBool
  refine wpAny_holding ?_
  refine wpAny_ite_split (fun hab => absurd (eq_of_beq hab) nofun) (fun _ => ?_)
  refine wpAny_bind ?_
  have ht : s.TypeIs (.ref l) "dict" := ⟨_, ho, by rw [hc]⟩
  refine rc_eq_decline_or (k := false) (typeIs_str s b u) ht (by decide) F.sub_dict_str F.slot_str_eq F.slot_dict_eq_refl
    (fun _ hq => call_meets F.slot_str_eq (typeIs_str s b u) F.entry_str_eq (F.args_str_eq_2 _ _) (str_eq_declines_dict b u l o es ep hd) ⟨ho, hq⟩)
    (fun _ hq => wpAny_call_entry F.slot_dict_eq_refl ht F.entry_dict_eq ?_ (F.args_dict_eq_2 _ _))
    (fun _ hq => wpAny_of_eq (rfl : isSame (.str b u) (.ref l) = pure false) hq) (.inr hu) (wpAny_truthy_bool h)
  show wpAny _ _ (Builtin.Dict.dictSlotArgs "__eq__" ⟨[.ref l, .str b u], []⟩ >>= _) _ _ s
  unfold Builtin.Dict.dictSlotArgs
  refine wpAny_bind (wpAny_bind (wpAny_notOrdered_dict ht ?_))
  show wpAny _ _ (pure (Value.ref l, Value.str b u)) _ _ s
  refine wpAny_pure (wpAny_bind (wpAny_isInstance (T := "str") (typeIs_str s b u) F.sub_str_dict ?_))
  simp only [Bool.not_false, if_true]
  wp_walk
  exact ⟨_, rfl, hq⟩
end
/-- what is no text, as far as it stands beside texts -/
def NoT (H : Hp) (x : V) : Prop := x = .non ∨ (∃ i : Int, x = .int i) ∨ (∃ b : Bool, x = .bl b) ∨ (∃ a xs, x = .ref a ∧ H a = some (.lst xs)) ∨ (∃ a xs, x = .ref a ∧ H a = some (.tup xs)) ∨ ∃ a kvs, x = .ref a ∧ H a = some (.dK kvs)
def rNotInTx (K : PySem.W.Frag) : R2 := fun x y H Q => ∃ (p : Addr) (xs : List Str), y = .ref p ∧ SqT K H p (xs.map V.str) ∧ ((NoT H x ∧ Q (.bl true) H) ∨ ∃ z : Str, x = .str z ∧ Q (.bl (!decide (z ∈ xs))) H)
theorem op_notInTx {X : Cx} (hu : X.A.units + 2 < cLine) : OpR X (compareOp .NotIn) (rNotInTx X.K) := by
  intro pins s σ H x y v u Q I rx ry h
  obtain ⟨p, xs, rfl, hp, h⟩ := h
  cases (show u = Value.ref p from ry)
  obtain ⟨us, r1, p1, _⟩ := I.tuple hp
  rcases h with ⟨hx, q⟩ | ⟨z, rfl, q⟩
  · have hstr : ∀ y, y ∈ us.toArray → ∃ b t, y = Value.str b t := by
      have go : ∀ {xs : List Str} {us : List Value}, Vals (xs.map V.str) us → ∀ y ∈ us, ∃ b t, y = Value.str b t := by
        intro xs
        induction xs with
        | nil => intro us r y hy; cases r; cases hy
        | cons x xs ih =>
          intro us r y hy
          rw [List.map_cons] at r
          cases r with
          | cons r0 rt =>
            rcases List.mem_cons.mp hy with rfl | hy
            · obtain ⟨t, rfl⟩ := r0
              exact ⟨_, _, rfl⟩
            · exact ih rt y hy
      intro y hy
      exact go r1 y (by simpa using hy)
    refine notIn_tupleAt (fun _ => false) p1 (fun y hy => ?_) ?_
    · obtain ⟨b, t, rfl⟩ := hstr y hy
      have hu1 : X.A.in1.units < cLine := by
        show X.A.units + 1 < cLine
        omega
      rcases hx with rfl | ⟨i, rfl⟩ | ⟨i, rfl⟩ | ⟨a, ls, rfl, ha⟩ | ⟨a, ls, rfl, ha⟩ | ⟨a, kvs, rfl, ha⟩
      · cases rx
        exact EqAt.str_none b t
      · obtain ⟨t2, rfl⟩ := rx
        exact EqAt.str_int b t i t2
      · cases rx
        exact EqAt.str_bool b t i
      · cases (show v = Value.ref a from rx)
        obtain ⟨its, rv, hl, _⟩ := I.list (SqL.of ha)
        obtain ⟨o, n, ho, hc, _, hd⟩ := hl
        exact EqAt.str_list b t ⟨o, ho, hc, _, hd⟩ hu1
      · cases (show v = Value.ref a from rx)
        obtain ⟨its, rv, hl, _⟩ := I.tuple (SqT.of ha)
        exact EqAt.str_tuple b t hl hu1
      · cases (show v = Value.ref a from rx)
        obtain ⟨_, hsys, vs, rv, o, es, ep, ho, hc, hd, _, hp, _⟩ := (show ObjOk X.prog X.w H s.heap a (.dK kvs) from I.hok a _ ha)
        exact EqAt.str_dict b t ho hc.1 hd hu1
    · have e : us.toArray.any (fun _ => false) = false := by
        rw [← Array.any_toList]
        simp
      rw [e]
      exact ⟨.bl true, H, I, rfl, q⟩
  · refine (op_notIn_seq (X := X)) pins s σ H _ (.ref p) _ _ Q I rx rfl ⟨p, _, rfl, .inr hp, rfl, ?_, ?_⟩
    · rw [List.all_map, List.all_eq_true]
      intro y _
      rfl
    · have e : inV (.str z) (xs.map V.str) = decide (z ∈ xs) := by
        unfold inV
        rw [List.any_map, Bool.eq_iff_iff, List.any_eq_true, decide_eq_true_eq]
        constructor
        · rintro ⟨y, hy, e⟩
          have : eqV (.str y) (.str z) = true := e
          have : y = z := by simpa [eqV] using this
          rw [← this]
          exact hy
        · intro h
          exact ⟨z, h, by simp [eqV]⟩
      simp only [if_true, e]
      exact q
end L2
namespace L2
open PySem PySem.Spec PyProof.Rows
theorem pss_no {X : Cx} {b : List Stmt} : PSs X b (fun _ _ _ => False) := ⟨fun _ _ _ _ _ _ h => h.elim⟩
/-- what a method keeps that may raise -/
def KmxX (P : Program) (w : World) (K : PySem.W.Frag) (mg : Str → Option Value) (base : Heap) (C : Addr) (k : Nat) (m : Str) (ps : List Str) (sp : Sp) : Prop :=
  ∃ f fd, Meth K C m f ∧ Binds K fd ps [] ∧ FnOk P w K mg base (L2.CX P w) k f fd ps sp
section
variable {X : Cx} {k j : Nat} {ps ks : List Str} {sp : Sp} {m x : Str} {C : Addr} {o e : Expr} {es : List Expr} {kws : List Keyword} {to tf : TE} {ta : TA} {apos pos p : Pos} {E : XK}
theorem pe_kmx {pl : Sem Bool} (F : KmxX X.prog X.w X.K X.mg X.base C k m ps sp) (c : Cls X.K C) (hr : Room j X.A) (hx : Passes (L2.CX X.prog X.w) X E) (he : PE X o to) (ha : PA X (e :: es) ta)
    (hj : k ≤ j := by decide)
    (hst : starEach (e :: es) X.env = (false, eval e X.env) :: starEach es X.env := by rfl) (hpl : (backTo pos (starEach es X.env)).any (·.1) = false := by rfl)
    (ht : eval (.Call (.Attribute o m apos) (e :: es) [] pos) X.env = (do
      let ov ← eval o X.env
      standAt apos.atName
      let (f, first) ← holding [ov] (getMethod ov m pl)
      callWith pos f first (backTo pos (starEach (e :: es) X.env)) (backToKw pos (keywordEach [] X.env))) := by rfl) :
    PE X (.Call (.Attribute o m apos) (e :: es) [] pos) (tMeth C m sp [] E to ta) := by
  obtain ⟨f, fd, M, b, F⟩ := F
  exact pe_meth he c M F (hr.mono hj) b .nil hx ha hst hpl ht
end
end L2
namespace L2
open PySem PySem.Spec PyProof.Rows
/-- how keywords in the contrary order bind -/
def KwB (fd : FuncData) (ps ks : List Str) : Prop := ∀ (s : Shared) (ws : List Value), ws.length = ks.length → BindsTo s fd ⟨[], ks.zip ws⟩ (ps.zip ws.reverse)
/-- a def of the top, called by keywords too -/
def OwnK (K : PySem.W.Frag) (mg : Str → Option Value) (x : Str) (st : Stmt) (ps ks : List Str) : Prop :=
  ∃ f fd, mg x = some (.ref f) ∧ Fun K x x st f fd ∧ Binds K fd ps [] ∧ KwB fd ps ks
def KfV (P : Program) (w : World) (K : PySem.W.Frag) (mg : Str → Option Value) (base : Heap) (k : Nat) (x : Str) (ps ks : List Str) (sp : Sp) : Prop :=
  ∃ f fd, mg x = some (.ref f) ∧ PySem.W.keepIn K (.ref f) = true ∧ KwB fd ps ks ∧ FnOk P w K mg base CX0 k f fd ps sp
section
variable {P : Program} {w : World} {K : PySem.W.Frag} {mg : Str → Option Value} {base : Heap}
theorem OwnK.okF {x : Str} {st : Stmt} {N ps ks : List Str} {k : Nat} {sp : Sp} (O : OwnK K mg x st ps ks)
    (S : FnScope N ps (defScope st)) (len : ∀ vs H Q E, sp vs H Q E → vs.length = ps.length)
    (hbody : ∀ (f : Addr) (cdv : Value) (A : Around) (outer : List Env) (s : Shared) (H : Hp) (vs : List V) (Q : VK)
      (E : XK), True →
      Room k (A.deeper (envOfC x (defScope st) s.heap.objs.size f cdv)) → sp vs H Q E →
      ∃ t, PSs (cxOf CX0 P w K mg base N x (defScope st) f cdv A outer s H E).nox (defBody st) t ∧
        t { nx := fun _ H' => Q .non H', rt := Q } (start N vs) H) :
    Kf P w K mg base (k + 1) x ps sp ∧ KfV P w K mg base (k + 1) x ps ks sp := by
  obtain ⟨f, fd, hm, F, b, bk⟩ := O
  have G := F.ok (P := P) (w := w) (mg := mg) (base := base) S len fun cdv A outer s H vs Q E hr h => hbody f cdv A outer s H vs Q E trivial hr h
  exact ⟨⟨f, fd, hm, F.kp, b, G⟩, ⟨f, fd, hm, F.kp, bk, G⟩⟩
end
end L2
namespace L2
open PySem PySem.Spec PyProof.Rows
end L2
namespace PySem.W
open Lean Elab Tactic Meta PySem PySem.Calls PyProof.Rows
end PySem.W
namespace L2
open PySem PySem.Spec PyProof.Rows
end L2
namespace PySem.W
open Lean Elab Tactic Meta PySem PySem.Calls PyProof.Rows
end PySem.W
namespace L2
open PySem PySem.Spec PyProof.Rows
end L2
namespace L2
open PySem PySem.Spec PyProof.Rows
end L2
namespace L2
open PySem PySem.Spec PyProof.Rows
end L2
namespace L2
open PySem PySem.Spec PyProof.Rows
/-- a tuple's iterator at its place i -/
def ItT (l it : Addr) (i : Nat) : HO := .ext fun h => h.IsTupleIter it l i
theorem itT_ok {P : Program} {w : World} {H : Hp} {h : Heap} {l it : Addr} {i : Nat} (e : h.IsTupleIter it l i) : ObjOk P w H h it (ItT l it i) := ⟨e, (by obtain ⟨o, ho, _⟩ := id e; exact ⟨o, ho⟩), fun h1 h2 q k => q.at k⟩
def rIterT (K : PySem.W.Frag) (n : Nat) : List V → Hp → VK → Prop := fun xs H Q => ∃ (l : Addr) (zs : List V), xs = [.ref l] ∧ SqT K H l zs ∧ ∀ it, H it = none → n ≤ it → Q (.ref it) (upd H it (ItT l it 0))
section
variable {X : Cx}
theorem call_iterT : CallR X (.builtin "iter") (rIterT X.K X.s_0.heap.objs.size) := by
  intro pins s σ H xs us Q I r h
  obtain ⟨l, zs, rfl, hq, q⟩ := h
  obtain ⟨u, rfl, ru⟩ := vals1 r
  cases ru
  obtain ⟨its, rv, pl, hz⟩ := I.tuple hq
  refine Calls.call_function_entry (by decide +kernel) (by decide +kernel) PySem.W.kdk_entry_iter (PySem.W.kdk_args_iter _) ?_
  unfold Builtin.«iter»
  refine wpAny_bind (m := someArgs "iter" 1 2 _) (wpAny_of_eq (a := [Value.ref l]) (by first | rfl | kernel_rfl!) ?_)
  show wpAny _ _ (pyIter (.ref l) >>= _) _ _ _
  refine wpAny_bind (wpAny_pyIter_tuple (show s.heap.IsTuple l its.toArray from pl) ?_)
  exact wpAny_pure ⟨_, rfl, .ref s.heap.objs.size, _, I.laid (t' := s.toks) (fun b u e => Heap.get?_push_of_some _ e) (Nat.le_refl _) (itT_ok ⟨_, Heap.get?_push_size _ rfl, rfl, rfl⟩), rfl, q _ (I.hok.fresh (Nat.le_refl _)) I.sz⟩
end
/-- a promise that may also tell how far the heap went before: n -/
structure FnS (P : Program) (w : World) (K : PySem.W.Frag) (mg : Str → Option Value) (base : Heap) (k : Nat) (f : Addr) (fd : FuncData) (ps : List Str) (sp : Nat → Sp) : Prop where
  len : ∀ n vs H Q E, sp n vs H Q E → vs.length = ps.length
  run : ∀ (A : Around) (outer : List Env) (s : Shared) (H : Hp) (args : Args) (us : List Value) (vs : List V) (Q : VK) (E : XK), Room k A → Env0 P w K mg base A outer s H → BindsTo s fd args (ps.zip us) → Vals vs us →
    sp s.heap.objs.size vs H Q E → codeAny (model P w) A (.call (.ref f) args) (CR CX0 outer P w H s Q E) s
section
variable {P : Program} {w : World} {K : PySem.W.Frag} {mg : Str → Option Value} {base : Heap} {k : Nat} {f : Addr} {fd : FuncData} {ps : List Str} {sp : Nat → Sp}
theorem FunD.okS {x qual : Str} {st : Stmt} {N : List Str} (F : MD K x qual st [] f fd) (S : FnScope N ps (defScope st)) (len : ∀ n vs H Q E, sp n vs H Q E → vs.length = ps.length)
    (hbody : ∀ (f : Addr) (cdv : Value) (A : Around) (outer : List Env) (s : Shared) (H : Hp) (vs : List V) (Q : VK) (E : XK), Room k (A.deeper (envOfC qual (defScope st) s.heap.objs.size f cdv)) → sp s.heap.objs.size vs H Q E →
      ∃ t, PSs (cxOf CX0 P w K mg base N qual (defScope st) f cdv A outer s H E).nox (defBody st) t ∧ t { nx := fun _ H' => Q .non H', rt := Q } (start N vs) H) : FnS P w K mg base (k + 1) f fd ps sp := by
  obtain ⟨oc, od, dV, kV, doc, pm, an, cdv, ct, osl, rfl, lk, hcd, _, _⟩ := F.ex
  refine ⟨len, fun A outer s H args us vs Q E hr e0 hb r hsp => ?_⟩
  have ln := len _ _ _ _ _ hsp
  have inn : K.In s.heap := e0.mod.kin.keeps fun b o e => (e0.bs b o e).1
  have free : s.heap.NoLimit := e0.mod.nolimit.keeps fun b o e => (e0.bs b o e).1
  have kinds : ∀ y ∈ ps.zip us, (defScope st).names.lookup y.1 = some .local ∨
      ((defScope st).names.lookup y.1 = some .cell ∧ ((cellsFrom (s.heap.objs.size + 1) (defScope st).names []).lookup y.1).isSome = true) := by
    rintro ⟨n, v⟩ hy
    rcases S.par n (List.of_mem_zip hy).1 with q | q
    · exact .inl q
    · exact .inr ⟨q, PySem.W.cellsFrom_some _ _ _ (.inl q)⟩
  refine codeAny_call_function hr.depth (inn _ _ lk) rfl S.co S.gen rfl (PySem.W.codeRec_of inn hcd) (hb _ _ _ _ ?_)
  refine wpAny_newFunctionEnv_cells S.kind kinds fun env he s1 x => ?_
  subst he
  refine ⟨free.keeps x.toInCall.keep, codeAny_func ?_⟩
  obtain ⟨t, body, hq⟩ := hbody f cdv A outer s H vs Q E (hr.deeper _) hsp
  have I : Inv (cxOf CX0 P w K mg base N qual (defScope st) f cdv A outer s H E) [] (start N vs) H s1 := inv_start S hr.hd e0 ln r x
  refine wpAny_mono (body.nox.run [] s1 (start N vs) H _ I hq) (fun fl s' hs => ?_) fun e s' hs => hs
  cases fl with
  | ret u =>
    obtain ⟨v, σ', H', J, rv, q⟩ := hs
    exact ⟨_, _, J.os, J.bare, J.base, J.hok, rv, q⟩
  | next =>
    obtain ⟨σ', H', J, q⟩ := hs
    exact ⟨V.non, _, J.os, J.bare, J.base, J.hok, rfl, q⟩
  | brk => exact False.elim (let ⟨_, _, _, q⟩ := hs; q)
  | cont => exact False.elim (let ⟨_, _, _, q⟩ := hs; q)
end
/-- what __iter__ keeps -/
def KitS (P : Program) (w : World) (K : PySem.W.Frag) (mg : Str → Option Value) (base : Heap) (C : Addr) (k : Nat) (sp : Nat → Sp) : Prop :=
  ∃ f fd, PySem.W.findIn K (.ref C) "__iter__" = some (some (.ref f)) ∧ PySem.W.isFn K (.ref f) = true ∧ Binds K fd ["self"] [] ∧ FnS P w K mg base k f fd ["self"] sp
/-- o of the class at C, whose __iter__ answers a new iterator of a tuple -/
def iOwnT (K : PySem.W.Frag) (C : Addr) (sp : Nat → Sp) (te : TE) : TI := fun σ H R => te σ H fun v H1 => ∃ (x dx : Addr) (fs : List (Str × V)) (l : Addr), v = .ref x ∧ H1 x = some (.ins C dx fs) ∧ (∃ zs, SqT K H1 l zs) ∧
  (∀ n, sp n [.ref x] H1 (fun v H2 => ∃ it, v = .ref it ∧ H1 it = none ∧ n ≤ it ∧ H2 = upd H1 it (ItT l it 0)) E0) ∧ R (Itt K l) H1
section
variable {X : Cx} {k j : Nat} {sp : Nat → Sp} {C : Addr} {tg e : Expr} {te : TE}
theorem pi_ownT (G : KitS X.prog X.w X.K X.mg X.base C k sp) (hr : Room j X.A) (he : PE X e te) (hj : k ≤ j := by decide) (hx : Passes CX0 X E0 := by exact pass0) : PI X tg e (iOwnT X.K C sp te) := by
  obtain ⟨f, fd, hs, hf, bs, F⟩ := G
  refine ⟨fun pins s σ H R I h => ?_⟩
  refine thn (he.run pins s σ H _ I h) fun v s1 ⟨x, H1, I1, r1, q1⟩ => ?_
  obtain ⟨o, dx, fs, l, rfl, eo, ⟨zs, hq⟩, hsp, q⟩ := q1
  cases r1
  obtain ⟨m, fr⟩ := I1.fr
  obtain ⟨od, O⟩ := ins_at I1 eo
  refine PySem.W.owit_iter fr I1.ok.mod.kin O hs hf ?_
  have rr : Vals [.ref o] [Value.ref o] := .cons rfl .nil
  have hl := F.len _ _ _ _ _ (hsp 0)
  refine wpAny_call (codeAny_mono (F.run X.A X.stack s1 H1 ⟨[.ref o], []⟩ [.ref o] [.ref o] _ E0 (hr.mono hj) I1.env0 ?_ rr (hsp _)) fun r s' hq' => ?_)
  · have := bs s1 [.ref o] I1.kIn (by simpa using hl)
    simpa using this
  cases r with
  | error e => exact hx pins σ H1 s1 e s' I1 hq'
  | ok fl =>
    cases fl with
    | ret u =>
      obtain ⟨v2, H3, I2, rv2, it, rfl, hn, young, rfl⟩ := I1.after hq'
      cases rv2
      have hT : s'.heap.IsTupleIter it l 0 := (I2.hok it _ upd_same).1
      unfold PySem.W.OwitIt
      refine wpAny_specialOf hT.typeIs PySem.F.slot_tuple_iterator_next.lookup ?_
      refine ⟨it, [it], _, _, H1, rfl, ?_, turn_tuple l it, hT, fun b hb => ?_, q⟩
      · have := ItX.inv_drop I2 upd_same
        rw [ItX.dropH_upd hn] at this
        exact this
      · have e : b = it := by simpa using hb
        subst e
        exact I1.fpOk young hn
    | next => exact False.elim hq'
    | brk => exact False.elim hq'
    | cont => exact False.elim hq'
end
end L2
namespace L2
open PySem PySem.Spec PyProof.Rows PySem.SeqAt PySem.MeetsSeq
def rInTx (K : PySem.W.Frag) : R2 := fun x y H Q => ∃ (p : Addr) (xs : List Str), y = .ref p ∧ SqT K H p (xs.map V.str) ∧ ((NoT H x ∧ Q (.bl false) H) ∨ ∃ z : Str, x = .str z ∧ Q (.bl (decide (z ∈ xs))) H)
theorem op_inTx {X : Cx} (hu : X.A.units + 2 < cLine) : OpR X (compareOp .In) (rInTx X.K) := by
  intro pins s σ H x y v u Q I rx ry h
  obtain ⟨p, xs, rfl, hp, h⟩ := h
  cases (show u = Value.ref p from ry)
  obtain ⟨us, r1, p1, _⟩ := I.tuple hp
  rcases h with ⟨hx, q⟩ | ⟨z, rfl, q⟩
  · have texts : ∀ y, y ∈ us.toArray → ∃ b t, y = Value.str b t := by
      have go : ∀ {xs : List Str} {us : List Value}, Vals (xs.map V.str) us → ∀ y ∈ us, ∃ b t, y = Value.str b t := by
        intro xs
        induction xs with
        | nil => intro us r y hy; cases r; cases hy
        | cons x xs ih =>
          intro us r y hy
          rw [List.map_cons] at r
          cases r with
          | cons r0 rt =>
            rcases List.mem_cons.mp hy with rfl | hy
            · obtain ⟨t, rfl⟩ := r0
              exact ⟨_, _, rfl⟩
            · exact ih rt y hy
      exact fun y hy => go r1 y (by simpa using hy)
    refine in_tupleAt (fun _ => false) p1 (fun y hy => ?_) ?_
    · obtain ⟨b, t, rfl⟩ := texts y hy
      have hu1 : X.A.in1.units < cLine := by
        show X.A.units + 1 < cLine
        omega
      rcases hx with rfl | ⟨i, rfl⟩ | ⟨i, rfl⟩ | ⟨a, ls, rfl, ha⟩ | ⟨a, ls, rfl, ha⟩ | ⟨a, kvs, rfl, ha⟩
      · cases rx
        exact EqAt.str_none b t
      · obtain ⟨t2, rfl⟩ := rx
        exact EqAt.str_int b t i t2
      · cases rx
        exact EqAt.str_bool b t i
      · cases (show v = Value.ref a from rx)
        obtain ⟨its, rv, hl, _⟩ := I.list (SqL.of ha)
        obtain ⟨o, n, ho, hc, _, hd⟩ := hl
        exact EqAt.str_list b t ⟨o, ho, hc, _, hd⟩ hu1
      · cases (show v = Value.ref a from rx)
        obtain ⟨its, rv, hl, _⟩ := I.tuple (SqT.of ha)
        exact EqAt.str_tuple b t hl hu1
      · cases (show v = Value.ref a from rx)
        obtain ⟨_, hsys, vs, rv, o, es, ep, ho, hc, hd, _, hp, _⟩ := (show ObjOk X.prog X.w H s.heap a (.dK kvs) from I.hok a _ ha)
        exact EqAt.str_dict b t ho hc.1 hd hu1
    · have e : us.toArray.any (fun _ => false) = false := by
        rw [← Array.any_toList]
        simp
      rw [e]
      exact ⟨.bl false, H, I, rfl, q⟩
  · refine (op_in_seq (X := X)) pins s σ H _ (.ref p) _ _ Q I rx rfl ⟨p, _, rfl, .inr hp, rfl, ?_, ?_⟩
    · rw [List.all_map, List.all_eq_true]
      intro y _
      rfl
    · have e : inV (.str z) (xs.map V.str) = decide (z ∈ xs) := by
        unfold inV
        rw [List.any_map, Bool.eq_iff_iff, List.any_eq_true, decide_eq_true_eq]
        constructor
        · rintro ⟨y, hy, e⟩
          have : eqV (.str y) (.str z) = true := e
          have : y = z := by simpa [eqV] using this
          rw [← this]
          exact hy
        · intro h
          exact ⟨z, h, by simp [eqV]⟩
      simp only [Bool.false_eq_true, if_false, e]
      exact q
end L2
namespace KC
open PySem L2 PyProof.Rows
theorem okL_le {lo hi : Nat} {s : Str} (h : okL lo hi s = true) : s.length ≤ hi := by
  unfold okL at h
  simp only [Bool.and_eq_true, decide_eq_true_eq] at h
  exact h.2.1
/-- an error that is told: its class by name, its fields -/
def Told (mg : Str → Option Value) (H : Hp) (E : XK) (x : Str) (fs : List (Str × V)) : Prop :=
  ∀ d H', H d = none → Same H H' → H' d = some (.xd fs) → E (.ref (adr mg x)) (some d) H'
theorem Told.same {mg : Str → Option Value} {H H' : Hp} {E : XK} {x : Str} {fs : List (Str × V)} (h : Told mg H E x fs) (s : Same H H') : Told mg H' E x fs :=
  fun d H2 hd s2 e => h d H2 (s.free hd) (s.trans s2) e
/-- what is wrong: no text, or a text that is none of this kind -/
def BadV (K : PySem.W.Frag) (lo hi : Nat) (H : Hp) (v : V) : Prop := (∃ z : Str, v = .str z ∧ z.length ≤ 10000 ∧ okL lo hi z = false) ∨
  ∃ t, (∀ H', Same H H' → TyOf K H' v t) ∧ PySem.W.kitOne K t (.type "str") = some false
theorem BadV.same {K : PySem.W.Frag} {lo hi : Nat} {H H' : Hp} {v : V} (h : BadV K lo hi H v) (s : Same H H') : BadV K lo hi H' v := by
  rcases h with h | ⟨t, a, b⟩
  · exact .inl h
  · exact .inr ⟨t, fun H2 s2 => a H2 (s.trans s2), b⟩
theorem spL.bad {K : PySem.W.Frag} {lo hi : Nat} {H : Hp} {v : V} {Q : VK} (h : BadV K lo hi H v) (k : ∀ H', Same H H' → Q (.bl false) H') : spL K lo hi v H Q := by
  rcases h with ⟨z, rfl, hz, e⟩ | ⟨t, a, b⟩
  · exact .inl ⟨z, rfl, hz, fun H' s => by rw [e]; exact k H' s⟩
  · exact .inr ⟨t, a H (fun _ _ h => h), b, k H (fun _ _ h => h)⟩
theorem passE0 {X : Cx} : Passes (L2.CX X.prog X.w) X E0 := fun _ _ _ _ _ _ _ h => by
  obtain ⟨_, _, _, _, _, _, _, _, _, _, _, _, z⟩ := h
  exact z.elim
abbrev s_tail : Stmt := inClass (top 53) 7
abbrev n_tail : List Str := ["self", "state"]
theorem sc_tail : FnScope n_tail ["self", "state"] (defScope s_tail) :=
  ⟨rfl, rfl, rfl, by decide +kernel, rfl, by decide +kernel, by decide +kernel⟩
abbrev s_getm : Stmt := inClass (top 53) 16
abbrev n_getm : List Str := ["self", "at", "state", "letter"]
theorem sc_getm : FnScope n_getm ["self", "at"] (defScope s_getm) :=
  ⟨rfl, rfl, rfl, by decide +kernel, rfl, by decide +kernel, by decide +kernel⟩
abbrev s_cont : Stmt := inClass (top 53) 17
abbrev n_cont : List Str := ["self", "x"]
theorem sc_cont : FnScope n_cont ["self", "x"] (defScope s_cont) :=
  ⟨rfl, rfl, rfl, by decide +kernel, rfl, by decide +kernel, by decide +kernel⟩
abbrev s_len : Stmt := inClass (top 53) 18
abbrev n_len : List Str := ["self"]
theorem sc_len : FnScope n_len ["self"] (defScope s_len) :=
  ⟨rfl, rfl, rfl, by decide +kernel, rfl, by decide +kernel, by decide +kernel⟩
abbrev s_iter : Stmt := inClass (top 53) 19
abbrev n_iter : List Str := ["self"]
theorem sc_iter : FnScope n_iter ["self"] (defScope s_iter) :=
  ⟨rfl, rfl, rfl, by decide +kernel, rfl, by decide +kernel, by decide +kernel⟩
structure TxM (K : PySem.W.Frag) (mg : Str → Option Value) : Prop where
  C : TxC K mg
  tail : ∃ f fd, Meth K (gC mg) "tail" f ∧ MD K "tail" "Converter.tail" s_tail [] f fd ∧ Binds K fd ["self", "state"] [] ∧ KwI fd ["self", "state"] ["state"]
  getm : ∃ f fd, GetM K (gC mg) f ∧ MD K "__getitem__" "Converter.__getitem__" s_getm [] f fd ∧ Binds K fd ["self", "at"] []
  cont : ∃ f fd, PySem.W.findIn K (.ref (gC mg)) "__contains__" = some (some (.ref f)) ∧ PySem.W.isFn K (.ref f) = true ∧ MD K "__contains__" "Converter.__contains__" s_cont [] f fd ∧ Binds K fd ["self", "x"] []
  len : ∃ f fd, PySem.W.findIn K (.ref (gC mg)) "__len__" = some (some (.ref f)) ∧ PySem.W.isFn K (.ref f) = true ∧ MD K "__len__" "Converter.__len__" s_len [] f fd ∧ Binds K fd ["self"] []
  iter : ∃ f fd, PySem.W.findIn K (.ref (gC mg)) "__iter__" = some (some (.ref f)) ∧ PySem.W.isFn K (.ref f) = true ∧ MD K "__iter__" "Converter.__iter__" s_iter [] f fd ∧ Binds K fd ["self"] []
structure ErrR (P : Program) (w : World) (K : PySem.W.Frag) (mg : Str → Option Value) (base : Heap) : Prop where
  conv : MkR P w K mg base "BadConverter" ["part"]
  letter : MkR P w K mg base "BadLetter" ["value"]
  state : MkR P w K mg base "NoState" ["value"]
def tailOf (tl : List (Str × Str)) (s : Str) : Option Str := (tl.find? fun e => decide (e.1 = s)).map (·.2)
theorem valV_tl (tl : List (Str × Str)) (s : Str) : valV (tl.map tlKv) (.inr s) = (tailOf tl s).map V.str := by
  unfold valV tailOf
  induction tl with
  | nil => rfl
  | cons e tl ih =>
    rw [List.map_cons, List.find?_cons, List.find?_cons]
    by_cases h : e.1 = s
    · have h1 : decide ((tlKv e).1 = (Sum.inr s : Key)) = true := decide_eq_true (by rw [← h]; rfl)
      rw [h1, decide_eq_true h]
      rfl
    · have h1 : decide ((tlKv e).1 = (Sum.inr s : Key)) = false := decide_eq_false fun z => h (Sum.inr.inj z)
      rw [h1, decide_eq_false h]
      exact ih
/-- no state -/
def NoSt (H : Hp) (s : Str) (st : List StE) (tl : List (Str × Str)) (v : V) : Prop := NoT H v ∨ ∃ z : Str, v = .str z ∧ z ∉ namesOf s st tl
section
variable {P : Program} {w : World} {K : PySem.W.Frag} {mg : Str → Option Value} {base : Heap}
def spLenC (K : PySem.W.Frag) (C : Addr) : Sp := fun vs H Q _ => ∃ (x : Addr) (s : Str) (st : List StE) (tl : List (Str × Str)), vs = [.ref x] ∧ CvAt K C H x s st tl ∧ (namesOf s st tl).length ≤ 6 ∧ Q (.int ((namesOf s st tl).length : Nat)) H
theorem ka_len (TM : TxM K mg) : Kop P w K mg base (gC mg) 1 "__len__" ["self"] (spLenC K (gC mg)) := by
  have TC := TM.C
  have T := TC.T
  obtain ⟨f, fd, h1, h2, F, b⟩ := TM.len
  refine ⟨f, fd, h1, h2, b, F.okM sc_len (fun vs H Q E h => ?_) (fun f cdv A outer s H vs Q E hA hr h => ?_)⟩
  · obtain ⟨x, s, st, tl, rfl, _⟩ := h
    rfl
  · obtain ⟨x, s, st, tl, rfl, cv, n6, k⟩ := h
    refine ⟨_, (pss_one (ps_ret (pe_callB call_len (by rfl) (T.nb _ (by decide)) PySem.boot_len (pa_cons (pe_fld (pv 0) rfl) pa_nil)))), ?_⟩
    obtain ⟨dx, ss, ls, d, t, ys, zs, c1, c2, c3, c4, c5, c6, c7, c8, c9, c10⟩ := id cv
    rw [← c3.length_eq] at k
    have := k
    rw [show (ys.length : Nat) = (ys.map V.str).length by rw [List.length_map]] at this
    exact ⟨_, rfl, x, _, dx, _, _, rfl, c1, TC.cls, TC.nA _ (by decide), rfl, .ref ss, _, rfl, .inr ⟨_, SqT.of c2, rfl⟩, this⟩
/-- x in o -/
def spCt (K : PySem.W.Frag) (C : Addr) : Sp := fun vs H Q _ => ∃ (x : Addr) (v : V) (s : Str) (st : List StE) (tl : List (Str × Str)), vs = [.ref x, v] ∧ CvAt K C H x s st tl ∧
  ((NoT H v ∧ Q (.bl false) H) ∨ ∃ z : Str, v = .str z ∧ Q (.bl (decide (z ∈ lettersOf st))) H)
theorem ka_cont (TM : TxM K mg) : Kop P w K mg base (gC mg) 1 "__contains__" ["self", "x"] (spCt K (gC mg)) := by
  have TC := TM.C
  have T := TC.T
  obtain ⟨f, fd, h1, h2, F, b⟩ := TM.cont
  refine ⟨f, fd, h1, h2, b, F.okM sc_cont (fun vs H Q E h => ?_) (fun f cdv A outer s H vs Q E hA hr h => ?_)⟩
  · obtain ⟨x, v, s, st, tl, rfl, _⟩ := h
    rfl
  · obtain ⟨x, v, s, st, tl, rfl, cv, k⟩ := h
    refine ⟨_, (pss_one (ps_ret (pe_cmpR (op_inTx (hu2_of hr)) (pv 1) (pe_fld (pv 0) rfl) rfl))), ?_⟩
    obtain ⟨dx, ss, ls, d, t, ys, zs, c1, c2, c3, c4, c5, c6, c7, c8, c9, c10⟩ := id cv
    refine ⟨_, rfl, _, rfl, x, _, dx, _, _, rfl, c1, TC.cls, TC.nA _ (by decide), rfl, ls, zs, rfl, SqT.of c5, ?_⟩
    rcases k with ⟨nt, k⟩ | ⟨z, rfl, k⟩
    · exact .inl ⟨nt, k⟩
    · refine .inr ⟨z, rfl, ?_⟩
      rw [show decide (z ∈ zs) = decide (z ∈ lettersOf st) from decide_eq_decide.mpr c6.mem_iff]
      exact k
/-- the new iterator of its states -/
def spIt (K : PySem.W.Frag) (C : Addr) : Nat → Sp := fun n vs H Q _ => ∃ (x dx ss ls d t : Addr) (s : Str) (zs : List V), vs = [.ref x] ∧ H x = some (.ins C dx (flds s ss ls d t)) ∧ SqT K H ss zs ∧ ∀ it, H it = none → n ≤ it → Q (.ref it) (upd H it (ItT ss it 0))
theorem ka_iter (TM : TxM K mg) : KitS P w K mg base (gC mg) 1 (spIt K (gC mg)) := by
  have TC := TM.C
  have T := TC.T
  have hA : True := trivial
  obtain ⟨f, fd, h1, h2, F, b⟩ := TM.iter
  refine ⟨f, fd, h1, h2, b, F.okS sc_iter (fun n vs H Q E h => ?_) (fun f cdv A outer s0 H vs Q E hr h => ?_)⟩
  · obtain ⟨x, dx, ss, ls, d, t, s, zs, rfl, _⟩ := h
    rfl
  · obtain ⟨x, dx, ss, ls, d, t, s, zs, rfl, c1, c2, k⟩ := h
    refine ⟨_, (pss_one (ps_ret (pe_callB call_iterT (by rfl) (T.nb _ (by decide)) (by decide +kernel) (pa_cons (pe_fld (pv 0) rfl) pa_nil)))), ?_⟩
    exact ⟨_, rfl, x, _, dx, _, _, rfl, c1, TC.cls, TC.nA _ (by decide), rfl, ss, zs, rfl, c2, fun it hn yg => k it hn yg⟩
theorem iter_run {H : Hp} {x : Addr} {s : Str} {st : List StE} {tl : List (Str × Str)} {te : TE} {σ : L2.St} {R : It → Hp → Prop} (recv : ∀ R : VK, R (.ref x) H → te σ H R) (cv : CvAt K (gC mg) H x s st tl)
    (k : ∀ (ss : Addr) (ys : List Str), H ss = some (.tup (ys.map V.str)) → ys.Perm (namesOf s st tl) → sortedS ys = true → R (Itt K ss) H) : iOwnT K (gC mg) (spIt K (gC mg)) te σ H R := by
  obtain ⟨dx, ss, ls, d, t, ys, zs, c1, c2, c3, c4, c5, c6, c7, c8, c9, c10⟩ := id cv
  refine recv _ ⟨x, dx, _, ss, rfl, c1, ⟨_, SqT.of c2⟩, fun n => ?_, k ss ys c2 c3 c4⟩
  exact ⟨x, dx, ss, ls, d, t, s, _, rfl, c1, SqT.of c2, fun it hn yg => ⟨it, rfl, hn, yg, rfl⟩⟩
end
end KC
namespace KC
open PySem L2 PyProof.Rows
/-- the errors that the law tells apart -/
def hNames : List Str := ["BadName", "BadConverter", "BadLetter", "BadAnswer", "BadWord", "NoStep", "NoTail", "NoState", "Nothing", "Taken", "TooMany", "BadText", "BadNumber"]
structure TxH (K : PySem.W.Frag) (mg : Str → Option Value) : Prop where
  T : Txt K mg
  nbv : mg "ValueError" = none
  mgh : mg "HeadError" = some (.ref (adr mg "HeadError"))
  mgc : ∀ x ∈ hNames, mg x = some (.ref (adr mg x))
  cl : ∀ x ∈ hNames, XCl K (adr mg x)
  na : ∀ x ∈ hNames, ∀ f ∈ (["value", "at", "state", "part", "what", "most", "line", "word"] : List Str), PySem.W.findIn K (.ref (adr mg x)) f = some none
  kit : ∀ x ∈ hNames, ∀ y ∈ hNames, PySem.W.kitOne K (.ref (adr mg x)) (.ref (adr mg y)) = some (decide (x = y))
  kitV : ∀ x ∈ hNames, PySem.W.kitOne K (.ref (adr mg x)) (.type "ValueError") = some true
  ex : ∀ x ∈ hNames, PySem.W.exmOne K (.ref (adr mg x)) (.ref (adr mg "HeadError")) = some true
/-- what is shown of v wherever the heap goes -/
def ShwE (K : PySem.W.Frag) (H : Hp) (v : V) (t : Str) : Prop := ∀ H', Same H H' → Shw K H' v t
/-- a new tuple of texts -/
def OutT (ts : List Str) (H : Hp) (Q : VK) : Prop := ∀ T H', H T = none → Same H H' → H' T = some (.tup (ts.map V.str)) → Q (.ref T) H'
/-- what the law makes of an error -/
def EEh (K : PySem.W.Frag) (mg : Str → Option Value) (Q : VK) : XK := fun cls d H => ∃ (x : Str) (dd : Addr) (fs : List (Str × V)),
  cls = .ref (adr mg x) ∧ d = some dd ∧ H dd = some (.xd fs) ∧
  ((x = "BadConverter" ∧ ∃ v0 t0, fs = [(("part" : Str), v0)] ∧ ShwE K H v0 t0 ∧ OutT ["converter", t0] H Q) ∨
   (x = "BadLetter" ∧ ∃ v0 t0, fs = [(("value" : Str), v0)] ∧ ShwE K H v0 t0 ∧ OutT ["letter", t0] H Q) ∨
   (x = "NoState" ∧ ∃ v0 t0, fs = [(("value" : Str), v0)] ∧ ShwE K H v0 t0 ∧ OutT ["state", t0] H Q))
/-- what hearing a call makes of it -/
def TTh (K : PySem.W.Frag) (mg : Str → Option Value) : (XK → Hp → VK → Prop) → Hp → VK → Prop := fun tl H Q =>
  ∀ (H' : Hp) (R : VK), Same H H' →
    (∀ v H1, (∀ L H2, H1 L = none → Same H1 H2 → H2 L = some (.lst [v]) → Q (.ref L) H2) → R v H1) → tl (EEh K mg Q) H' R
/-- the statements of the first try of a block -/
def tryBody : List Stmt → List Stmt
  | [] => []
  | .Try b _ _ _ _ :: _ => b
  | _ :: r => tryBody r
/-- the try's body -/
def tbH (f c' : Addr) (q : Str) (tl : XK → Hp → VK → Prop) : WX → TS := fun W D σ H => ∃ Ech : XK,
  (∀ cls d σ' H', Ech cls d H' → W cls d σ' H') ∧ σ[0]? = some (some (.ref f)) ∧ H c' = some (LamX.CodeO c' q) ∧
  tl Ech H fun v H1 => D.nx (σ.set 2 (some v)) H1
section
variable {K : PySem.W.Frag} {mg : Str → Option Value} {D : Ends} {σ : L2.St} {G : Hp} {A : TS} {a L dd : Addr} {x y tag f f2 t t2 : Str} {fs : List (Str × V)} {v v2 : V}
theorem is_no (TH : TxH K mg) (hs : σ[1]? = some (some (.ref a))) (ga : G a = some (exc a (adr mg x) (some dd))) (gd : G dd = some (.xd fs)) (hx : x ∈ hNames)
    (hy : y ∈ hNames) (ne : x ≠ y) (k : D.nx σ G) : tIfS (tB (tCB (rIsw K) (tCons (tVar 1) (tCons (tC (.ref (adr mg y))) tNil)))) A tNext D σ G :=
  ⟨_, hs, a, _, dd, fs, .ref (adr mg y), .ref (adr mg y), false, rfl, TH.cl x hx, ga, gd, (fun u r => r), by rw [TH.kit x hx y hy, decide_eq_false ne], _, rfl, iteF k⟩
theorem is_yes1 (TH : TxH K mg) (hs : σ[1]? = some (some (.ref a))) (ga : G a = some (exc a (adr mg x) (some dd))) (gd : G dd = some (.xd fs)) (hx : x ∈ hNames)
    (hs4 : σ[4]? = some (some (.ref L))) (gL : G L = some (.lst [])) (hl : fs.lookup f = some v) (hf : f ∈ (["value", "at", "state", "part", "what", "most", "line", "word"] : List Str)) (hsh : Shw K G v t)
    (k : ∀ T, G T = none → D.nx σ (upd (upd G T (.tup [.str tag, .str t])) L (.lst [.ref T]))) :
    tIfS (tB (tCB (rIsw K) (tCons (tVar 1) (tCons (tC (.ref (adr mg x))) tNil))))
      (tDrop (tBM K "list" rAppend (tVar 4) (tCons (tTup (tCons (tC (.str tag)) (tCons (tCB (rRepV K) (tCons (tXw K f (tVar 1)) tNil)) tNil))) tNil))) tNext D σ G := by
  refine ⟨_, hs, a, _, dd, fs, .ref (adr mg x), .ref (adr mg x), true, rfl, TH.cl x hx, ga, gd, (fun u r => r), by rw [TH.kit x hx x hx, decide_eq_true rfl], _, rfl, iteT ?_⟩
  refine ⟨_, hs4, ?_, ⟨_, hs, a, _, dd, fs, v, rfl, TH.cl x hx, TH.na x hx f hf, ga, gd, hl, v, t, rfl, hsh, (by show 2 ≤ sizeLine; decide), fun T hT => ⟨L, [], .ref T, rfl, rfl, upd_new hT gL, (by show 0 < sizeLine; decide), k T hT⟩⟩⟩
  exact .inl ⟨rfl, _, SqL.of gL⟩
theorem fin_one {B : TE} {T : Addr} (TH : TxH K mg) (hs : σ[1]? = some (some (.ref a))) (ga : G a = some (exc a (adr mg x) (some dd))) (gd : G dd = some (.xd fs)) (hx : x ∈ hNames)
    (hs4 : σ[4]? = some (some (.ref L))) (gL : G L = some (.lst [.ref T])) (k : D.rt (.ref T) G) :
    tRet (tIf (tAnd (tTest (tOp rEq (tCB (fun xs H Q => ∃ x n, xs = [x] ∧ LenV K x H n ∧ Q (V.int (n : Nat)) H) (tCons (tVar 4) tNil)) (tC (V.int 1))))
      (tB (tCB (rIsw K) (tCons (tVar 1) (tCons (tC (V.ty "ValueError")) tNil))))) (tOp (rIxL K) (tVar 4) (tC (V.int 0))) B) D σ G := by
  refine ⟨_, hs4, .ref L, 1, rfl, .inl ⟨_, SqL.of gL, rfl⟩, rfl, _, rfl, iteT ?_⟩
  refine ⟨_, hs, a, _, dd, fs, .ty "ValueError", .type "ValueError", true, rfl, TH.cl x hx, ga, gd, (fun u r => r), TH.kitV x hx, _, rfl, iteT ?_⟩
  exact ⟨_, hs4, L, _, 0, .ref T, rfl, rfl, SqL.of gL, rfl, k⟩
end
section
variable {X : Cx} {g : Addr} {cdg : Value} {q : Str}
theorem heard_gives (TH : TxH X.K X.mg) (hA0 : X.A.guards = some []) (hr0 : Room 3 X.A) :
    LamX.GivesTo X n_lheard "_law_heard" (defScope s_lheard) g cdg (defBody s_lheard) "_law_ask" q (TTh X.K X.mg) := by
  intro f c' s H Q tl act hc h
  have T := TH.T
  have hA : (cxOf C8.CX0 X.prog X.w X.K X.mg X.base n_lheard "_law_heard" (defScope s_lheard) g cdg X.A X.stack s H C8.E0).nox.A.guards = some [] := hA0
  have hr : Room 2 (cxOf C8.CX0 X.prog X.w X.K X.mg X.base n_lheard "_law_heard" (defScope s_lheard) g cdg X.A X.stack s H C8.E0).nox.A :=
    hr0.deeper (envOfC "_law_heard" (defScope s_lheard) s.heap.objs.size g cdg)
  have hbody : ∀ (W : WX) (pn : List (Addr × Obj)) (xe : Value → Shared → Prop), Takes ((cxOf C8.CX0 X.prog X.w X.K X.mg X.base n_lheard "_law_heard" (defScope s_lheard) g cdg X.A X.stack s H C8.E0).nox.tr pn xe) W →
      PassesOwn (model X.prog X.w) (cxOf C8.CX0 X.prog X.w X.K X.mg X.base n_lheard "_law_heard" (defScope s_lheard) g cdg X.A X.stack s H C8.E0).nox.A (cxOf C8.CX0 X.prog X.w X.K X.mg X.base n_lheard "_law_heard" (defScope s_lheard) g cdg X.A X.stack s H C8.E0).nox.env xe →
      PSs ((cxOf C8.CX0 X.prog X.w X.K X.mg X.base n_lheard "_law_heard" (defScope s_lheard) g cdg X.A X.stack s H C8.E0).nox.tr pn xe) (tryBody (defBody s_lheard)) (tbH f c' q tl W) := by
    intro W pn xe tk _
    refine ⟨fun pins s' σ H' D I h' => ?_⟩
    obtain ⟨Ech, hW, h1, h2, h3⟩ := h'
    have hp := act W pn xe Ech
    exact (pss_one (ps_set (i := 2) sc_lheard.nd rfl (Or.inl rfl) (hp _ _ tk hW))).run pins s' σ H' D I ⟨h1, h2, h3⟩
  refine ⟨_, (pss_cons (ps_asg (pe_tup (pa_cons (pe_non) (pa_cons (pe_non) pa_nil))) (pg_tup rfl (pgs_cons (pg_name (i := 1) sc_lheard.nd rfl (Or.inl rfl)) (pgs_cons (pg_name (i := 2) sc_lheard.nd rfl (Or.inl rfl)) pgs_nil))))
 (pss_cons (ps_try_keep (c := .ref (adr X.mg "HeadError")) (i := 3) (tb := tbH f c' q tl) rfl rfl rfl sc_lheard.nd rfl rfl ⟨by rfl, by decide, .inl TH.mgh⟩ takes0 hbody (fun a oe cls d pn _ _ => (pss_one (ps_set (i := 1) sc_lheard.nd rfl (Or.inl rfl) (pv 3)))))
 (pss_cons (ps_if (pt_cmpR op_isN (pv 1) (pe_non) (nomark _))
 (pss_one (ps_ret (pe_lst (pa_cons (pv 2) pa_nil)))) pss_nil)
 (pss_cons (ps_set (i := 4) sc_lheard.nd rfl (Or.inl rfl) (pe_lst pa_nil))
 (pss_cons (ps_if (pt_val (pe_callB call_isw (by rfl) (T.nb _ (by decide)) (by decide +kernel) (pa_cons (pv 1) (pa_cons (pe_glob (v := .ref (adr X.mg "BadName")) rfl (TH.mgc _ (by decide)) rfl) pa_nil))))
 (pss_one (ps_expr (pe_bm PySem.F.plainAttrs_list PySem.F.slot_list_append PySem.F.type_list_append mt_append (pv 4) (pa_cons (pe_tup (pa_cons (pe_str) (pa_cons (pe_callB (call_reprV hA hr.units) (by rfl) (T.nb _ (by decide)) (by decide +kernel) (pa_cons (pe_xw (pv 1)) pa_nil)) pa_nil))) pa_nil)))) pss_nil)
 (pss_cons (ps_if (pt_val (pe_callB call_isw (by rfl) (T.nb _ (by decide)) (by decide +kernel) (pa_cons (pv 1) (pa_cons (pe_glob (v := .ref (adr X.mg "BadConverter")) rfl (TH.mgc _ (by decide)) rfl) pa_nil))))
 (pss_one (ps_expr (pe_bm PySem.F.plainAttrs_list PySem.F.slot_list_append PySem.F.type_list_append mt_append (pv 4) (pa_cons (pe_tup (pa_cons (pe_str) (pa_cons (pe_callB (call_reprV hA hr.units) (by rfl) (T.nb _ (by decide)) (by decide +kernel) (pa_cons (pe_xw (pv 1)) pa_nil)) pa_nil))) pa_nil)))) pss_nil)
 (pss_cons (ps_if (pt_val (pe_callB call_isw (by rfl) (T.nb _ (by decide)) (by decide +kernel) (pa_cons (pv 1) (pa_cons (pe_glob (v := .ref (adr X.mg "BadLetter")) rfl (TH.mgc _ (by decide)) rfl) pa_nil))))
 (pss_one (ps_expr (pe_bm PySem.F.plainAttrs_list PySem.F.slot_list_append PySem.F.type_list_append mt_append (pv 4) (pa_cons (pe_tup (pa_cons (pe_str) (pa_cons (pe_callB (call_reprV hA hr.units) (by rfl) (T.nb _ (by decide)) (by decide +kernel) (pa_cons (pe_xw (pv 1)) pa_nil)) pa_nil))) pa_nil)))) pss_nil)
 (pss_cons (ps_if (pt_val (pe_callB call_isw (by rfl) (T.nb _ (by decide)) (by decide +kernel) (pa_cons (pv 1) (pa_cons (pe_glob (v := .ref (adr X.mg "BadAnswer")) rfl (TH.mgc _ (by decide)) rfl) pa_nil))))
 (pss_one (ps_expr (pe_bm PySem.F.plainAttrs_list PySem.F.slot_list_append PySem.F.type_list_append mt_append (pv 4) (pa_cons (pe_tup (pa_cons (pe_str) (pa_cons (pe_callB (call_reprV hA hr.units) (by rfl) (T.nb _ (by decide)) (by decide +kernel) (pa_cons (pe_xw (pv 1)) pa_nil)) pa_nil))) pa_nil)))) pss_nil)
 (pss_cons (ps_if (pt_val (pe_callB call_isw (by rfl) (T.nb _ (by decide)) (by decide +kernel) (pa_cons (pv 1) (pa_cons (pe_glob (v := .ref (adr X.mg "BadWord")) rfl (TH.mgc _ (by decide)) rfl) pa_nil))))
 (pss_one (ps_expr (pe_bm PySem.F.plainAttrs_list PySem.F.slot_list_append PySem.F.type_list_append mt_append (pv 4) (pa_cons (pe_tup (pa_cons (pe_str) (pa_cons (pe_callB (call_reprV hA hr.units) (by rfl) (T.nb _ (by decide)) (by decide +kernel) (pa_cons (pe_xw (pv 1)) pa_nil)) pa_nil))) pa_nil)))) pss_nil)
 (pss_cons (ps_if (pt_val (pe_callB call_isw (by rfl) (T.nb _ (by decide)) (by decide +kernel) (pa_cons (pv 1) (pa_cons (pe_glob (v := .ref (adr X.mg "NoStep")) rfl (TH.mgc _ (by decide)) rfl) pa_nil))))
 (pss_one (ps_expr (pe_bm PySem.F.plainAttrs_list PySem.F.slot_list_append PySem.F.type_list_append mt_append (pv 4) (pa_cons (pe_tup (pa_cons (pe_str) (pa_cons (pe_callB (call_reprV hA hr.units) (by rfl) (T.nb _ (by decide)) (by decide +kernel) (pa_cons (pe_xw (pv 1)) pa_nil)) (pa_cons (pe_callB (call_reprV hA hr.units) (by rfl) (T.nb _ (by decide)) (by decide +kernel) (pa_cons (pe_xw (pv 1)) pa_nil)) pa_nil)))) pa_nil)))) pss_nil)
 (pss_cons (ps_if (pt_val (pe_callB call_isw (by rfl) (T.nb _ (by decide)) (by decide +kernel) (pa_cons (pv 1) (pa_cons (pe_glob (v := .ref (adr X.mg "NoTail")) rfl (TH.mgc _ (by decide)) rfl) pa_nil))))
 (pss_one (ps_expr (pe_bm PySem.F.plainAttrs_list PySem.F.slot_list_append PySem.F.type_list_append mt_append (pv 4) (pa_cons (pe_tup (pa_cons (pe_str) (pa_cons (pe_callB (call_reprV hA hr.units) (by rfl) (T.nb _ (by decide)) (by decide +kernel) (pa_cons (pe_xw (pv 1)) pa_nil)) pa_nil))) pa_nil)))) pss_nil)
 (pss_cons (ps_if (pt_val (pe_callB call_isw (by rfl) (T.nb _ (by decide)) (by decide +kernel) (pa_cons (pv 1) (pa_cons (pe_glob (v := .ref (adr X.mg "NoState")) rfl (TH.mgc _ (by decide)) rfl) pa_nil))))
 (pss_one (ps_expr (pe_bm PySem.F.plainAttrs_list PySem.F.slot_list_append PySem.F.type_list_append mt_append (pv 4) (pa_cons (pe_tup (pa_cons (pe_str) (pa_cons (pe_callB (call_reprV hA hr.units) (by rfl) (T.nb _ (by decide)) (by decide +kernel) (pa_cons (pe_xw (pv 1)) pa_nil)) pa_nil))) pa_nil)))) pss_nil)
 (pss_cons (ps_if (pt_val (pe_callB call_isw (by rfl) (T.nb _ (by decide)) (by decide +kernel) (pa_cons (pv 1) (pa_cons (pe_glob (v := .ref (adr X.mg "Nothing")) rfl (TH.mgc _ (by decide)) rfl) pa_nil))))
 (pss_one (ps_expr (pe_bm PySem.F.plainAttrs_list PySem.F.slot_list_append PySem.F.type_list_append mt_append (pv 4) (pa_cons (pe_tup (pa_cons (pe_str) pa_nil)) pa_nil)))) pss_nil)
 (pss_cons (ps_if (pt_val (pe_callB call_isw (by rfl) (T.nb _ (by decide)) (by decide +kernel) (pa_cons (pv 1) (pa_cons (pe_glob (v := .ref (adr X.mg "Taken")) rfl (TH.mgc _ (by decide)) rfl) pa_nil))))
 (pss_one (ps_expr (pe_bm PySem.F.plainAttrs_list PySem.F.slot_list_append PySem.F.type_list_append mt_append (pv 4) (pa_cons (pe_tup (pa_cons (pe_str) (pa_cons (pe_callB (call_reprV hA hr.units) (by rfl) (T.nb _ (by decide)) (by decide +kernel) (pa_cons (pe_xw (pv 1)) pa_nil)) pa_nil))) pa_nil)))) pss_nil)
 (pss_cons (ps_if (pt_val (pe_callB call_isw (by rfl) (T.nb _ (by decide)) (by decide +kernel) (pa_cons (pv 1) (pa_cons (pe_glob (v := .ref (adr X.mg "TooMany")) rfl (TH.mgc _ (by decide)) rfl) pa_nil))))
 (pss_one (ps_expr (pe_bm PySem.F.plainAttrs_list PySem.F.slot_list_append PySem.F.type_list_append mt_append (pv 4) (pa_cons (pe_tup (pa_cons (pe_str) (pa_cons (pe_callB (call_reprV hA hr.units) (by rfl) (T.nb _ (by decide)) (by decide +kernel) (pa_cons (pe_xw (pv 1)) pa_nil)) (pa_cons (pe_callB (call_reprV hA hr.units) (by rfl) (T.nb _ (by decide)) (by decide +kernel) (pa_cons (pe_xw (pv 1)) pa_nil)) pa_nil)))) pa_nil)))) pss_nil)
 (pss_cons (ps_if (pt_val (pe_callB call_isw (by rfl) (T.nb _ (by decide)) (by decide +kernel) (pa_cons (pv 1) (pa_cons (pe_glob (v := .ref (adr X.mg "BadText")) rfl (TH.mgc _ (by decide)) rfl) pa_nil))))
 (pss_one (ps_expr (pe_bm PySem.F.plainAttrs_list PySem.F.slot_list_append PySem.F.type_list_append mt_append (pv 4) (pa_cons (pe_tup (pa_cons (pe_str) (pa_cons (pe_callB (call_reprV hA hr.units) (by rfl) (T.nb _ (by decide)) (by decide +kernel) (pa_cons (pe_xw (pv 1)) pa_nil)) (pa_cons (pe_callB (call_reprV hA hr.units) (by rfl) (T.nb _ (by decide)) (by decide +kernel) (pa_cons (pe_xw (pv 1)) pa_nil)) pa_nil)))) pa_nil)))) pss_nil)
 (pss_cons (ps_if (pt_val (pe_callB call_isw (by rfl) (T.nb _ (by decide)) (by decide +kernel) (pa_cons (pv 1) (pa_cons (pe_glob (v := .ref (adr X.mg "BadNumber")) rfl (TH.mgc _ (by decide)) rfl) pa_nil))))
 (pss_one (ps_expr (pe_bm PySem.F.plainAttrs_list PySem.F.slot_list_append PySem.F.type_list_append mt_append (pv 4) (pa_cons (pe_tup (pa_cons (pe_str) (pa_cons (pe_callB (call_reprV hA hr.units) (by rfl) (T.nb _ (by decide)) (by decide +kernel) (pa_cons (pe_xw (pv 1)) pa_nil)) pa_nil))) pa_nil)))) pss_nil)
 (pss_one (ps_ret (pe_ifExp (PW.pt (pw_and (pt_cmpR op_eq (pe_callB call_len (by rfl) (T.nb _ (by decide)) PySem.boot_len (pa_cons (pv 4) pa_nil)) (pe_int) (nomark _)) (pw_and1 (pt_val (pe_callB call_isw (by rfl) (T.nb _ (by decide)) (by decide +kernel) (pa_cons (pv 1) (pa_cons (pe_bltn (v := .ty "ValueError") (by rfl) TH.nbv (by decide +kernel) rfl) pa_nil))))))) (pe_ix ix_list (pv 4) (pe_int) (fun _ _ => rfl)) (pe_tup (pa_cons (pe_str) pa_nil)))))))))))))))))))))), ?_⟩
  refine ⟨(by show 2 ≤ sizeLine; decide), fun q0 hq0 => ⟨q0, _, rfl, SqT.of upd_same, rfl, _, _, rfl, _, _, rfl, rfl, ?_⟩⟩
  have sm := Same.new (u := .tup [.non, .non]) hq0
  refine ⟨EEh X.K X.mg Q, ?_, rfl, sm _ _ hc, ?_⟩
  · rintro cls d σ' H1 ⟨x, dd, fs, rfl, rfl, hdd, hcase⟩
    have hx : x ∈ hNames := by
      rcases hcase with ⟨rfl, _⟩ | ⟨rfl, _⟩ | ⟨rfl, _⟩ <;> decide
    refine ⟨true, TH.ex x hx, (fun z => Bool.noConfusion z), fun _ hlen => ⟨_, rfl, fun a ha => ?_⟩⟩
    obtain ⟨a0, a1, a2, a3, a4, rfl⟩ : ∃ a0 a1 a2 a3 a4, σ' = [a0, a1, a2, a3, a4] := by
      match σ', hlen with
      | [a0, a1, a2, a3, a4], _ => exact ⟨_, _, _, _, _, rfl⟩
    refine ⟨_, rfl, ?_⟩
    have sa : Same H1 (upd H1 a (exc a (adr X.mg x) (some dd))) := Same.new ha
    refine ⟨_, rfl, rfl, _, rfl, iteF ?_⟩
    refine ⟨(by show 0 ≤ sizeLine; decide), fun L hL => ?_⟩
    generalize hG : upd H1 a (exc a (adr X.mg x) (some dd)) = G at sa hL
    have ga : G a = some (exc a (adr X.mg x) (some dd)) := by rw [← hG]; exact upd_same
    have gd : G dd = some (.xd fs) := sa _ _ hdd
    have g1a : (upd G L (.lst [])) a = some (exc a (adr X.mg x) (some dd)) := upd_new hL ga
    have g1d : (upd G L (.lst [])) dd = some (.xd fs) := upd_new hL gd
    have s1 : Same H1 (upd G L (.lst [])) := sa.trans (Same.new hL)
    have g1L : (upd G L (.lst [])) L = some (.lst []) := upd_same
    have nLa : a ≠ L := ne_of_none ga hL
    have nLd : dd ≠ L := ne_of_none gd hL
    generalize upd G L (.lst []) = G1 at g1a g1d s1 g1L ⊢
    rcases hcase with ⟨rfl, v0, t0, rfl, h0, out⟩ | ⟨rfl, v0, t0, rfl, h0, out⟩ | ⟨rfl, v0, t0, rfl, h0, out⟩
    · iterate 1 refine is_no TH rfl g1a g1d (by decide) (by decide) (by decide) ?_
      refine is_yes1 TH rfl g1a g1d (by decide) rfl g1L rfl (by decide) (h0 _ s1) fun T hT => ?_
      have g2a := upd_oth (u := .lst [.ref T]) nLa (upd_new (u := .tup [.str "converter", .str t0]) hT g1a)
      have g2d := upd_oth (u := .lst [.ref T]) nLd (upd_new (u := .tup [.str "converter", .str t0]) hT g1d)
      have nLT : L ≠ T := ne_of_none g1L hT
      have g2T : upd (upd G1 T (.tup [.str "converter", .str t0])) L (.lst [.ref T]) T = some (.tup [.str "converter", .str t0]) := upd_oth nLT.symm upd_same
      have s2 : Same H1 (upd (upd G1 T (.tup [.str "converter", .str t0])) L (.lst [.ref T])) := fun b o e => by
        have nb : b ≠ L := fun z => by
          rw [z] at e
          have := sa _ _ e
          rw [hL] at this
          cases this
        exact upd_oth nb (upd_new hT (s1 _ _ e))
      iterate 11 refine is_no TH rfl g2a g2d (by decide) (by decide) (by decide) ?_
      exact fin_one TH rfl g2a g2d (by decide) rfl upd_same (out T _ (s1.free hT) s2 g2T)
    · iterate 2 refine is_no TH rfl g1a g1d (by decide) (by decide) (by decide) ?_
      refine is_yes1 TH rfl g1a g1d (by decide) rfl g1L rfl (by decide) (h0 _ s1) fun T hT => ?_
      have g2a := upd_oth (u := .lst [.ref T]) nLa (upd_new (u := .tup [.str "letter", .str t0]) hT g1a)
      have g2d := upd_oth (u := .lst [.ref T]) nLd (upd_new (u := .tup [.str "letter", .str t0]) hT g1d)
      have nLT : L ≠ T := ne_of_none g1L hT
      have g2T : upd (upd G1 T (.tup [.str "letter", .str t0])) L (.lst [.ref T]) T = some (.tup [.str "letter", .str t0]) := upd_oth nLT.symm upd_same
      have s2 : Same H1 (upd (upd G1 T (.tup [.str "letter", .str t0])) L (.lst [.ref T])) := fun b o e => by
        have nb : b ≠ L := fun z => by
          rw [z] at e
          have := sa _ _ e
          rw [hL] at this
          cases this
        exact upd_oth nb (upd_new hT (s1 _ _ e))
      iterate 10 refine is_no TH rfl g2a g2d (by decide) (by decide) (by decide) ?_
      exact fin_one TH rfl g2a g2d (by decide) rfl upd_same (out T _ (s1.free hT) s2 g2T)
    · iterate 7 refine is_no TH rfl g1a g1d (by decide) (by decide) (by decide) ?_
      refine is_yes1 TH rfl g1a g1d (by decide) rfl g1L rfl (by decide) (h0 _ s1) fun T hT => ?_
      have g2a := upd_oth (u := .lst [.ref T]) nLa (upd_new (u := .tup [.str "state", .str t0]) hT g1a)
      have g2d := upd_oth (u := .lst [.ref T]) nLd (upd_new (u := .tup [.str "state", .str t0]) hT g1d)
      have nLT : L ≠ T := ne_of_none g1L hT
      have g2T : upd (upd G1 T (.tup [.str "state", .str t0])) L (.lst [.ref T]) T = some (.tup [.str "state", .str t0]) := upd_oth nLT.symm upd_same
      have s2 : Same H1 (upd (upd G1 T (.tup [.str "state", .str t0])) L (.lst [.ref T])) := fun b o e => by
        have nb : b ≠ L := fun z => by
          rw [z] at e
          have := sa _ _ e
          rw [hL] at this
          cases this
        exact upd_oth nb (upd_new hT (s1 _ _ e))
      iterate 5 refine is_no TH rfl g2a g2d (by decide) (by decide) (by decide) ?_
      exact fin_one TH rfl g2a g2d (by decide) rfl upd_same (out T _ (s1.free hT) s2 g2T)
  · refine h _ _ sm fun v H1 hout => ?_
    refine ⟨_, rfl, rfl, _, rfl, iteT ?_⟩
    exact ⟨_, rfl, (by show 1 ≤ sizeLine; decide), fun L hL => hout L _ hL (Same.new hL) upd_same⟩
end
end KC
namespace KC
open PySem L2 PyProof.Rows
/-- the parts of a converter, as the law keeps them -/
def PtAt (K : PySem.W.Frag) (H : Hp) (p : Addr) (s : Str) (st : List StE) (tl : List (Str × Str)) : Prop :=
  ∃ d t, H p = some (.tup [.str s, .ref d, .ref t]) ∧ StAt K H d st ∧ H t = some (.dK (tl.map tlKv)) ∧ (tl.map (·.1)).Nodup
theorem PtAt.same {K : PySem.W.Frag} {H H' : Hp} {p : Addr} {s : Str} {st : List StE} {tl : List (Str × Str)} (h : PtAt K H p s st tl) (m : Same H H') : PtAt K H' p s st tl := by
  obtain ⟨d, t, h1, h2, h3, h4⟩ := h
  exact ⟨d, t, m _ _ h1, h2.same m, m _ _ h3, h4⟩
theorem abc_lt (c : Nat) (h : c ∈ abc.cps.toList) : c < 16 ^ 8 := by
  have : ∀ c ∈ abc.cps.toList, c < 16 ^ 8 := by decide +kernel
  exact this c h
theorem shw_name {K : PySem.W.Frag} {H : Hp} {lo hi : Nat} {x : Str} (h : okL lo hi x = true) (hh : hi ≤ 400) : Shw K H (.str x) (reprText x) := by
  refine Shw.str x ?_
  have l := okL_le h
  have := StrLaws.reprText_len x fun c hc => by
    unfold okL at h
    simp only [Bool.and_eq_true, List.all_eq_true, decide_eq_true_eq] at h
    exact abc_lt c (h.2.2 c hc)
  exact Nat.le_trans (show (reprText x).length ≤ 5000 by omega) (by decide)
theorem SqT.extN {K : PySem.W.Frag} {H H' : Hp} {a : Addr} {xs : List V} (h : SqT K H a xs) (m : LamX.ExtN H H') : SqT K H' a xs := by
  rcases h with (h | ⟨o, h⟩) | h
  · exact .inl (.inl (m _ _ h fun _ z => by cases z))
  · exact .inl (.inr ⟨o, m _ _ h fun _ z => by cases z⟩)
  · exact .inr h
theorem StAt.extN {K : PySem.W.Frag} {H H' : Hp} {d : Addr} {st : List StE} (h : StAt K H d st) (m : LamX.ExtN H H') : StAt K H' d st := by
  obtain ⟨kvs, a, b, c⟩ := h.ex
  refine ⟨kvs, m _ _ a (fun _ z => by cases z), ⟨b.1, fun i e he => ?_⟩, c⟩
  obtain ⟨q, h1, h2⟩ := b.2 i e he
  exact ⟨q, h1, SqT.extN h2 m⟩
theorem CvAt.extN {K : PySem.W.Frag} {C : Addr} {H H' : Hp} {x : Addr} {s : Str} {st : List StE} {tl : List (Str × Str)} (h : CvAt K C H x s st tl) (m : LamX.ExtN H H') : CvAt K C H' x s st tl := by
  obtain ⟨dx, ss, ls, d, t, ys, zs, h1, h2, h3, h4, h5, h6, h7, h8, h9, h10⟩ := h
  exact ⟨dx, ss, ls, d, t, ys, zs, m _ _ h1 (fun _ z => by cases z), m _ _ h2 (fun _ z => by cases z), h3, h4, m _ _ h5 (fun _ z => by cases z), h6, h7, StAt.extN h8 m, m _ _ h9 (fun _ z => by cases z), h10⟩
theorem PtAt.extN {K : PySem.W.Frag} {H H' : Hp} {p : Addr} {s : Str} {st : List StE} {tl : List (Str × Str)} (h : PtAt K H p s st tl) (m : LamX.ExtN H H') : PtAt K H' p s st tl := by
  obtain ⟨d, t, h1, h2, h3, h4⟩ := h
  exact ⟨d, t, m _ _ h1 (fun _ z => by cases z), StAt.extN h2 m, m _ _ h3 (fun _ z => by cases z), h4⟩
theorem extN_same {H H' : Hp} (h : Same H H') : LamX.ExtN H H' := fun b o e _ => h b o e
section
variable {X : Cx} {c P : Addr} {TT : List (Addr × Str)} {t : XK → TE} {p lpos pos : Pos} {params : Arguments} {body : Expr} {scope : Scope} {j : Nat}
/-- _law_heard(lambda: ..) -/
theorem pe_heard (TH : TxH X.K X.mg) (hA : X.A.guards = some []) (hr : Room j X.A) (hg : Gl X "_law_heard") (TB : LamX.TabB X.base X.mg c P) (hcode : X.env.code = .ref c)
    (hmT : (P, X.env.qual ++ "<lambda>") ∈ TT) (hu : ∀ q ∈ TT, q.1 = P → q.2 = X.env.qual ++ "<lambda>") (L : LamX.LamS X.env.scope scope) (hdef : defaultsOf params X.env = ([], []))
    (hbind : ∀ (q : Str) (cl : List (Str × Addr)) (pm cv ctv : Value), bindArgs (PySem.W.kla_fn "<lambda>" q params body scope cl pm cv ctv) ⟨[], []⟩ = pure [])
    (hbody : ∀ (A : Around) (outer : List Env) (s : Shared) (H : Hp) (E : XK) (f c' : Addr), Room 5 (A.deeper (LamX.lamEnv X scope s.heap.objs.size f c')) → PE (LamX.lamCx X A outer s H E scope f c') body (t E))
    (hj : 7 ≤ j := by decide) :
    PE X (.Call (.Name "_law_heard" p) [.Lambda params body scope lpos] [] pos) (LamX.tLam TT (TTh X.K X.mg) t) := by
  obtain ⟨g, fd, hm, F, hb⟩ := TH.T.d_lheard
  obtain ⟨oc, od, kV, doc, pm, an, cdv, ct, osl, rfl, lk, hcd⟩ := F.ex
  have hr5 : Room 7 X.A := hr.mono hj
  exact LamX.pe_lamcall hg hm F.kp lk hcd hb sc_lheard rfl (Or.inl rfl) (heard_gives TH hA (hr5.mono (by decide))) TB hcode hmT hu hr5 L hdef hbind hbody
end
theorem ok_abc : ∀ c ∈ abc.cps.toList, c < 1114112 ∧ ∀ q ∈ ([34, 39] : List Nat), (Builtin.Str.reprChar q c).all (fun c => decide (c < 1114112)) = true := by decide +kernel
theorem ok_let {lo hi : Nat} {x : Str} (h : okL lo hi x = true) : PyData.strOk x = true := by
  unfold okL at h
  simp only [Bool.and_eq_true, List.all_eq_true, decide_eq_true_eq] at h
  unfold PyData.strOk
  rw [← Array.all_toList, List.all_eq_true]
  exact fun c hc => decide_eq_true (ok_abc c (h.2.2 c hc)).1
theorem dp_strs {K : PySem.W.Frag} {H : Hp} : ∀ ts : List Str, DpAll K H (ts.map V.str) (ts.map PyData.str)
  | [] => .nil
  | x :: ts => .cons (.str x) (dp_strs ts)
theorem eqv_strs : ∀ ts : List Str, PyData.eqvAll (ts.map PyData.str) (ts.map PyData.str) = true
  | [] => by simp [PyData.eqvAll]
  | x :: ts => by simp [PyData.eqvAll, PyData.eqv, eqv_strs ts]
theorem extN_over {H H3 H6 : Hp} {L : Addr} {u : HO} (a : LamX.ExtN H H3) (hL : H3 L = none) (m : LamX.ExtN H H6) : LamX.ExtN H (upd H6 L u) := fun b o e n => upd_oth (fun z => by
  have := a b o e n
  rw [z, hL] at this
  cases this) (m b o e n)
theorem tabs_updL {T : List (Addr × Str)} {H : Hp} {L : Addr} {xs : List V} {u : HO} (t : LamX.Tabs T H) (g : H L = some (.lst xs)) : LamX.Tabs T (upd H L u) := by
  intro p hp
  obtain ⟨ps, h1, h2, h3⟩ := t p hp
  refine ⟨ps, upd_oth (fun z => by rw [z, g] at h1; cases h1) h1, h2, fun pos cv hc => ?_⟩
  obtain ⟨c, e1, e2⟩ := h3 pos cv hc
  exact ⟨c, e1, upd_oth (fun z => by rw [z, g] at e2; cases e2) e2⟩
theorem PenAt.lst {H : Hp} {p c : Addr} {ns : List Int} {n : Nat} (h : PenAt H p c ns n) : ∃ xs, H p = some (.lst xs) := by
  obtain ⟨t, g, a, _⟩ := h
  exact ⟨_, a⟩
end KC
namespace KC
open PySem L2 PyProof.Rows
/-- a step put in -/
def putSt (st : List StE) (e : StE) : List StE :=
  if (st.any fun x => decide (x.1 = e.1)) = true then st.map (fun x => if x.1 = e.1 then (x.1, e.2) else x) else st ++ [e]
def putTl (tl : List (Str × Str)) (e : Str × Str) : List (Str × Str) :=
  if (tl.any fun x => decide (x.1 = e.1)) = true then tl.map (fun x => if x.1 = e.1 then (x.1, e.2) else x) else tl ++ [e]
theorem stK_eq (x e : StE) : stK x = stK e ↔ x.1 = e.1 := by
  unfold stK
  constructor
  · intro h
    have h1 := List.cons.inj h
    have h2 := List.cons.inj h1.2
    exact Prod.ext (Sum.inr.inj h1.1) (Sum.inr.inj h2.1)
  · intro h
    rw [h]
theorem nd_put {κ : Type} [DecidableEq κ] {kvs : List (κ × V)} {k : κ} {v : V} (nd : (kvs.map (·.1)).Nodup) : ((putK kvs k v).map (·.1)).Nodup := by
  unfold putK
  split
  · rename_i h
    have e : ((kvs.map fun kv => if kv.1 = k then (kv.1, v) else kv).map (·.1)) = kvs.map (·.1) := by
      rw [List.map_map]
      refine List.map_congr_left fun x _ => ?_
      show (if x.1 = k then (x.1, v) else x).1 = x.1
      split <;> rfl
    rw [e]
    exact nd
  · rename_i h
    rw [List.map_append, List.nodup_append]
    refine ⟨nd, by simp, ?_⟩
    intro a ha b hb z
    simp only [List.map_cons, List.map_nil, List.mem_singleton] at hb
    subst hb
    obtain ⟨x, hx, e⟩ := List.mem_map.mp ha
    refine h ?_
    rw [List.any_eq_true]
    exact ⟨x, hx, decide_eq_true (e.trans z)⟩
theorem any_st {K : PySem.W.Frag} {H : Hp} {kvs : List (List Key × V)} {st : List StE} (h : StK K H kvs st) (e : StE) :
    (kvs.any fun kv => decide (kv.1 = stK e)) = (st.any fun x => decide (x.1 = e.1)) := by
  have e1 : (kvs.any fun kv => decide (kv.1 = stK e)) = ((kvs.map (·.1)).any fun k => decide (k = stK e)) := by rw [List.any_map]; rfl
  have e2 : (st.any fun x => decide (x.1 = e.1)) = ((st.map stK).any fun k => decide (k = stK e)) := by
    rw [List.any_map]
    congr 1
    funext x
    exact decide_eq_decide.mpr (stK_eq x e).symm
  rw [e1, e2, h.1]
theorem StK.put {K : PySem.W.Frag} {H : Hp} {kvs : List (List Key × V)} {st : List StE} {e : StE} {q : Addr} (h : StK K H kvs st) (hq : SqT K H q [.str e.2.1, .str e.2.2]) :
    StK K H (putK kvs (stK e) (.ref q)) (putSt st e) := by
  have ha := any_st h e
  unfold putK putSt
  rw [ha]
  by_cases c : (st.any fun x => decide (x.1 = e.1)) = true
  · rw [if_pos c, if_pos c]
    refine ⟨?_, fun i y hy => ?_⟩
    · rw [List.map_map, List.map_map]
      have e1 : (kvs.map ((fun x => x.1) ∘ fun kv => if kv.1 = stK e then (kv.1, V.ref q) else kv)) = kvs.map (·.1) := by
        refine List.map_congr_left fun x _ => ?_
        show (if x.1 = stK e then (x.1, V.ref q) else x).1 = x.1
        split <;> rfl
      have e2 : (st.map (stK ∘ fun x => if x.1 = e.1 then (x.1, e.2) else x)) = st.map stK := by
        refine List.map_congr_left fun x _ => ?_
        show stK (if x.1 = e.1 then (x.1, e.2) else x) = stK x
        split <;> rfl
      rw [e1, e2, h.1]
    · rw [List.getElem?_map] at hy
      cases hx : st[i]? with
      | none => rw [hx] at hy; cases hy
      | some x =>
        rw [hx] at hy
        obtain ⟨r, a1, a2⟩ := h.2 i x hx
        have hy' : (if x.1 = e.1 then (x.1, e.2) else x) = y := Option.some.inj hy
        by_cases d : x.1 = e.1
        · rw [if_pos d] at hy'
          subst hy'
          refine ⟨q, ?_, hq⟩
          rw [List.getElem?_map, a1]
          show some (if stK x = stK e then (stK x, V.ref q) else (stK x, V.ref r)) = some (stK (x.1, e.2), V.ref q)
          rw [if_pos ((stK_eq x e).mpr d)]
          rfl
        · rw [if_neg d] at hy'
          subst hy'
          refine ⟨r, ?_, a2⟩
          rw [List.getElem?_map, a1]
          show some (if stK x = stK e then (stK x, V.ref q) else (stK x, V.ref r)) = some (stK x, V.ref r)
          rw [if_neg (fun z => d ((stK_eq x e).mp z))]
  · rw [if_neg c, if_neg c]
    refine ⟨?_, fun i y hy => ?_⟩
    · rw [List.map_append, List.map_append, h.1]
      rfl
    · by_cases hi : i < st.length
      · rw [List.getElem?_append_left hi] at hy
        obtain ⟨r, a1, a2⟩ := h.2 i y hy
        refine ⟨r, ?_, a2⟩
        rw [List.getElem?_append_left (by rw [h.len]; exact hi)]
        exact a1
      · rw [List.getElem?_append_right (by omega)] at hy
        have hi0 : i - st.length = 0 := by
          cases hz : i - st.length with
          | zero => rfl
          | succ n => rw [hz] at hy; simp at hy
        rw [hi0] at hy
        simp at hy
        subst hy
        refine ⟨q, ?_, hq⟩
        rw [List.getElem?_append_right (by rw [h.len]; omega), h.len, hi0]
        rfl
theorem tlKv_put (tl : List (Str × Str)) (e : Str × Str) : putK (tl.map tlKv) (.inr e.1) (.str e.2) = (putTl tl e).map tlKv := by
  unfold putK putTl
  have e1 : ((tl.map tlKv).any fun kv => decide (kv.1 = (Sum.inr e.1 : Key))) = (tl.any fun x => decide (x.1 = e.1)) := by
    rw [List.any_map]
    congr 1
    funext x
    exact decide_eq_decide.mpr ⟨fun z => Sum.inr.inj z, fun z => by show (Sum.inr x.1 : Key) = _; rw [z]⟩
  rw [e1]
  split
  · rw [List.map_map, List.map_map]
    refine List.map_congr_left fun x _ => ?_
    show (if (Sum.inr x.1 : Key) = Sum.inr e.1 then (Sum.inr x.1, V.str e.2) else (Sum.inr x.1, V.str x.2)) = tlKv (if x.1 = e.1 then (x.1, e.2) else x)
    by_cases d : x.1 = e.1
    · rw [if_pos d, if_pos (by rw [d])]
      rfl
    · rw [if_neg d, if_neg (fun z => d (Sum.inr.inj z))]
      rfl
  · rw [List.map_append]
    rfl
theorem nd_putTl {tl : List (Str × Str)} {e : Str × Str} (nd : (tl.map (·.1)).Nodup) : ((putTl tl e).map (·.1)).Nodup := by
  unfold putTl
  split
  · have e1 : ((tl.map fun x => if x.1 = e.1 then (x.1, e.2) else x).map (·.1)) = tl.map (·.1) := by
      rw [List.map_map]
      refine List.map_congr_left fun x _ => ?_
      show (if x.1 = e.1 then (x.1, e.2) else x).1 = x.1
      split <;> rfl
    rw [e1]
    exact nd
  · rename_i h
    rw [List.map_append, List.nodup_append]
    refine ⟨nd, by simp, ?_⟩
    intro a ha b hb z
    simp only [List.map_cons, List.map_nil, List.mem_singleton] at hb
    subst hb
    obtain ⟨x, hx, ex⟩ := List.mem_map.mp ha
    refine h ?_
    rw [List.any_eq_true]
    exact ⟨x, hx, decide_eq_true (ex.trans z)⟩
theorem mem_putSt {st : List StE} {e x : StE} (h : x ∈ putSt st e) : x = e ∨ x ∈ st ∨ (∃ y ∈ st, y.1 = x.1 ∧ x.2 = e.2) := by
  unfold putSt at h
  split at h
  · obtain ⟨y, hy, rfl⟩ := List.mem_map.mp h
    by_cases d : y.1 = e.1
    · rw [if_pos d]
      exact .inr (.inr ⟨y, hy, rfl, rfl⟩)
    · rw [if_neg d]
      exact .inr (.inl hy)
  · rcases List.mem_append.mp h with h | h
    · exact .inr (.inl h)
    · exact .inl (List.mem_singleton.mp h)
theorem mem_putTl {tl : List (Str × Str)} {e x : Str × Str} (h : x ∈ putTl tl e) : x = e ∨ x ∈ tl ∨ (∃ y ∈ tl, y.1 = x.1 ∧ x.2 = e.2) := by
  unfold putTl at h
  split at h
  · obtain ⟨y, hy, rfl⟩ := List.mem_map.mp h
    by_cases d : y.1 = e.1
    · rw [if_pos d]
      exact .inr (.inr ⟨y, hy, rfl, rfl⟩)
    · rw [if_neg d]
      exact .inr (.inl hy)
  · rcases List.mem_append.mp h with h | h
    · exact .inr (.inl h)
    · exact .inl (List.mem_singleton.mp h)
theorem len_putSt (st : List StE) (e : StE) : (putSt st e).length ≤ st.length + 1 := by
  unfold putSt
  split
  · simp
  · simp
theorem len_putTl (tl : List (Str × Str)) (e : Str × Str) : (putTl tl e).length ≤ tl.length + 1 := by
  unfold putTl
  split
  · simp
  · simp
theorem addN_nd {l : List Str} {x : Str} (h : l.Nodup) : (addN l x).Nodup := by
  unfold addN
  split
  · exact h
  · rename_i n
    rw [List.nodup_append]
    refine ⟨h, by simp, ?_⟩
    intro a ha b hb z
    rw [List.mem_singleton] at hb
    subst hb
    subst z
    exact n ha
theorem addN_sub {l ns : List Str} {x : Str} (h : ∀ y ∈ l, y ∈ ns) (hx : x ∈ ns) : ∀ y ∈ addN l x, y ∈ ns := by
  unfold addN
  split
  · exact h
  · intro y hy
    rcases List.mem_append.mp hy with hy | hy
    · exact h y hy
    · rw [List.mem_singleton.mp hy]
      exact hx
theorem foldN_sub {ns : List Str} : ∀ (xs l : List Str), l.Nodup → (∀ y ∈ l, y ∈ ns) → (∀ y ∈ xs, y ∈ ns) → (xs.foldl addN l).Nodup ∧ ∀ y ∈ xs.foldl addN l, y ∈ ns
  | [], l, h1, h2, _ => ⟨h1, h2⟩
  | x :: xs, l, h1, h2, h3 => by
    rw [List.foldl_cons]
    exact foldN_sub xs _ (addN_nd h1) (addN_sub h2 (h3 x List.mem_cons_self)) (fun y hy => h3 y (List.mem_cons_of_mem _ hy))
theorem foldS_sub {ns : List Str} : ∀ (st : List StE) (l : List Str), l.Nodup → (∀ y ∈ l, y ∈ ns) → (∀ e ∈ st, e.1.1 ∈ ns ∧ e.2.2 ∈ ns) → (st.foldl addS l).Nodup ∧ ∀ y ∈ st.foldl addS l, y ∈ ns
  | [], l, h1, h2, _ => ⟨h1, h2⟩
  | x :: xs, l, h1, h2, h3 => by
    rw [List.foldl_cons]
    have hx := h3 x List.mem_cons_self
    exact foldS_sub xs _ (addN_nd (addN_nd h1)) (addN_sub (addN_sub h2 hx.1) hx.2) (fun y hy => h3 y (List.mem_cons_of_mem _ hy))
theorem nd_len {α : Type} [DecidableEq α] : ∀ {l ns : List α}, l.Nodup → (∀ y ∈ l, y ∈ ns) → l.length ≤ ns.length
  | [], ns, _, _ => by simp
  | x :: l, ns, h, s => by
    rw [List.nodup_cons] at h
    have hx := s x List.mem_cons_self
    have := nd_len (ns := ns.erase x) h.2 fun y hy => (List.mem_erase_of_ne (fun z => h.1 (by rw [← z]; exact hy))).mpr (s y (List.mem_cons_of_mem _ hy))
    rw [List.length_erase_of_mem hx] at this
    have : 0 < ns.length := List.length_pos_of_mem hx
    rw [List.length_cons]
    omega
theorem names_le {ns : List Str} {s : Str} {st : List StE} {tl : List (Str × Str)} (hs : s ∈ ns) (h1 : ∀ e ∈ st, e.1.1 ∈ ns ∧ e.2.2 ∈ ns) (h2 : ∀ e ∈ tl, e.1 ∈ ns) :
    (namesOf s st tl).length ≤ ns.length := by
  unfold namesOf
  have a := foldS_sub (ns := ns) st [s] (by simp) (fun y hy => by rw [List.mem_singleton.mp hy]; exact hs) h1
  have b := foldN_sub (ns := ns) (tl.map (·.1)) _ a.1 a.2 (fun y hy => by
    obtain ⟨e, he, rfl⟩ := List.mem_map.mp hy
    exact h2 e he)
  exact nd_len b.1 b.2
theorem letters_le {ls : List Str} {st : List StE} (h : ∀ e ∈ st, e.1.2 ∈ ls) : (lettersOf st).length ≤ ls.length := by
  unfold lettersOf
  have b := foldN_sub (ns := ls) (st.map fun e => e.1.2) [] (by simp) (fun y hy => by cases hy) (fun y hy => by
    obtain ⟨e, he, rfl⟩ := List.mem_map.mp hy
    exact h e he)
  exact nd_len b.1 b.2
/-- what the draw of parts keeps beside: all names among ns, all letters among ls -/
structure Among (ns ls : List Str) (st : List StE) (tl : List (Str × Str)) : Prop where
  st : ∀ e ∈ st, e.1.1 ∈ ns ∧ e.1.2 ∈ ls ∧ isAns e.2.1 = true ∧ e.2.2 ∈ ns
  tl : ∀ e ∈ tl, e.1 ∈ ns ∧ isAns e.2 = true
theorem Among.put {ns ls : List Str} {st : List StE} {tl : List (Str × Str)} (h : Among ns ls st tl) {e : StE} (he : e.1.1 ∈ ns ∧ e.1.2 ∈ ls ∧ isAns e.2.1 = true ∧ e.2.2 ∈ ns) : Among ns ls (putSt st e) tl :=
  ⟨fun x hx => by
    rcases mem_putSt hx with rfl | hx | ⟨y, hy, e1, e2⟩
    · exact he
    · exact h.st x hx
    · have := h.st y hy
      rw [e1] at this
      rw [e2]
      exact ⟨this.1, this.2.1, he.2.2.1, he.2.2.2⟩, h.tl⟩
theorem Among.putT {ns ls : List Str} {st : List StE} {tl : List (Str × Str)} (h : Among ns ls st tl) {e : Str × Str} (he : e.1 ∈ ns ∧ isAns e.2 = true) : Among ns ls st (putTl tl e) :=
  ⟨h.st, fun x hx => by
    rcases mem_putTl hx with rfl | hx | ⟨y, hy, e1, e2⟩
    · exact he
    · exact h.tl x hx
    · have := h.tl y hy
      rw [e1] at this
      rw [e2]
      exact ⟨this.1, he.2⟩⟩
theorem Among.ok {ns ls : List Str} {s : Str} {st : List StE} {tl : List (Str × Str)} (h : Among ns ls st tl) (hs : s ∈ ns) (hn : ∀ x ∈ ns, isName x = true) (hl : ∀ x ∈ ls, isLet x = true)
    (ln : ns.length ≤ 6) (ll : ls.length ≤ 4) (h1 : st.length ≤ 1000) (h2 : tl.length ≤ 1000) : OkParts s st tl where
  os := hn s hs
  ost := fun e he => let ⟨a, b, c, d⟩ := h.st e he; ⟨hn _ a, hl _ b, c, hn _ d⟩
  lst := h1
  otl := fun e he => let ⟨a, b⟩ := h.tl e he; ⟨hn _ a, b⟩
  ltl := h2
  n6 := Nat.le_trans (names_le hs (fun e he => let ⟨a, _, _, d⟩ := h.st e he; ⟨a, d⟩) (fun e he => (h.tl e he).1)) ln
  l4 := Nat.le_trans (letters_le fun e he => (h.st e he).2.1) ll
end KC
namespace KC
open PySem L2 PyProof.Rows
theorem PenAt.mono {H : Hp} {p c : Addr} {ns : List Int} {n m : Nat} (h : PenAt H p c ns n) (le : n ≤ m) : PenAt H p c ns m := by
  obtain ⟨t, g, a, b, e, f, z⟩ := h
  exact ⟨t, g, a, b, e, f, by omega⟩
theorem PenAt.same {H H' : Hp} {p c : Addr} {ns : List Int} {n : Nat} (h : PenAt H p c ns n) (s : Same H H') : PenAt H' p c ns n := by
  obtain ⟨t, g, a, b, e⟩ := h
  exact ⟨t, g, s _ _ a, s _ _ b, e⟩
theorem But.of_same {p : Addr} {H H' : Hp} (s : Same H H') : But p H H' := fun b _ o e => s b o e
theorem But.tr {p : Addr} {H H1 H2 : Hp} (a : But p H H1) (b : But p H1 H2) : But p H H2 := fun x hx o e => b x hx o (a x hx o e)
theorem StAt.but {K : PySem.W.Frag} {H H' : Hp} {p d : Addr} {st : List StE} {xs : List V} (h : StAt K H d st) (hp : H p = some (.lst xs)) (m : But p H H') : StAt K H' d st := by
  obtain ⟨kvs, a, b, c⟩ := h.ex
  refine ⟨kvs, m _ (fun z => by rw [z, hp] at a; cases a) _ a, ⟨b.1, fun i e he => ?_⟩, c⟩
  obtain ⟨q, h1, h2⟩ := b.2 i e he
  refine ⟨q, h1, ?_⟩
  rcases h2 with (h2 | ⟨o, h2⟩) | h2
  · exact .inl (.inl (m _ (fun z => by rw [z, hp] at h2; cases h2) _ h2))
  · exact .inl (.inr ⟨o, m _ (fun z => by rw [z, hp] at h2; cases h2) _ h2⟩)
  · exact .inr h2
theorem sqT_upd {K : PySem.W.Frag} {H : Hp} {d a : Addr} {xs : List V} {u u' : HO} (hd : H d = some u) (h : SqT K H a xs) (n1 : u ≠ .tup xs) (n2 : ∀ o, u ≠ .frz o (.tup xs)) : SqT K (upd H d u') a xs := by
  rcases h with (h | ⟨o, h⟩) | h
  · exact .inl (.inl (upd_oth (fun z => n1 (by rw [z, hd] at h; exact Option.some.inj h)) h))
  · exact .inl (.inr ⟨o, upd_oth (fun z => n2 o (by rw [z, hd] at h; exact Option.some.inj h)) h⟩)
  · exact .inr h
theorem StK.updT {K : PySem.W.Frag} {H : Hp} {d : Addr} {kvs : List (List Key × V)} {st : List StE} {kv2 : List (List Key × V)} {u : HO} (hd : H d = some (.dT kv2)) (h : StK K H kvs st) : StK K (upd H d u) kvs st :=
  ⟨h.1, fun i e he => let ⟨q, a, b⟩ := h.2 i e he; ⟨q, a, sqT_upd hd b (fun z => by cases z) (fun _ z => by cases z)⟩⟩
theorem StAt.updK {K : PySem.W.Frag} {H : Hp} {d t : Addr} {st : List StE} {kv2 : List (Key × V)} {u : HO} (ht : H t = some (.dK kv2)) (h : StAt K H d st) : StAt K (upd H t u) d st := by
  obtain ⟨kvs, a, b, c⟩ := h.ex
  exact ⟨kvs, upd_oth (fun z => by rw [z, ht] at a; cases a) a, ⟨b.1, fun i e he => let ⟨q, a, b⟩ := b.2 i e he; ⟨q, a, sqT_upd ht b (fun z => by cases z) (fun _ z => by cases z)⟩⟩, c⟩
theorem PenAt.upd {H : Hp} {p c d : Addr} {ns : List Int} {n : Nat} {o u : HO} (h : PenAt H p c ns n) (hd : H d = some o) (no : ∀ xs, o ≠ .lst xs) : PenAt (upd H d u) p c ns n := by
  obtain ⟨t, g, a, b, e⟩ := h
  exact ⟨t, g, upd_oth (fun z => by rw [z, hd] at a; exact no _ (Option.some.inj a)) a, upd_oth (fun z => by rw [z, hd] at b; exact no _ (Option.some.inj b)) b, e⟩
def tStrs : List Str → TA
  | [] => tNil
  | x :: r => tCons (tC (.str x)) (tStrs r)
def tStrLs0 : List (List Str) → TA
  | [] => tNil
  | x :: r => tCons (tLst (tStrs x)) (tStrLs0 r)
@[irreducible] def tStrLs (xss : List (List Str)) : TA := tStrLs0 xss
theorem strs_it : ∀ (xs : List Str) (σ : L2.St) (H : Hp) (Q : List V → Hp → Prop), Q (xs.map V.str) H → tStrs xs σ H Q
  | [], σ, H, Q, h => h
  | x :: r, σ, H, Q, h => strs_it r σ H (fun vs H2 => Q (V.str x :: vs) H2) h
/-- a new list of these texts -/
def NewL (H H' : Hp) (v : V) (xs : List Str) : Prop := ∃ a, v = .ref a ∧ H a = none ∧ H' a = some (.lst (xs.map V.str))
theorem strLs_it0 : ∀ (xss : List (List Str)) (σ : L2.St) (H : Hp) (Q : List V → Hp → Prop), (∀ x ∈ xss, x.length ≤ 100) →
    (∀ vs H', Same H H' → vs.length = xss.length → (∀ v ∈ vs, ∃ xs ∈ xss, NewL H H' v xs) → Q vs H') → tStrLs0 xss σ H Q
  | [], σ, H, Q, _, h => h [] H (fun _ _ e => e) rfl (fun v hv => by cases hv)
  | x :: r, σ, H, Q, hl, h => by
    refine strs_it x σ H _ ⟨by rw [List.length_map]; exact Nat.le_trans (hl x List.mem_cons_self) (by decide), fun a ha => ?_⟩
    refine strLs_it0 r σ _ _ (fun y hy => hl y (List.mem_cons_of_mem _ hy)) fun vs H2 s2 l2 h2 => ?_
    have s1 : Same H (upd H a (.lst (x.map V.str))) := Same.new ha
    refine h _ H2 (s1.trans s2) (by simp [l2]) fun v hv => ?_
    rcases List.mem_cons.mp hv with rfl | hv
    · exact ⟨x, List.mem_cons_self, a, rfl, ha, s2 _ _ upd_same⟩
    · obtain ⟨xs, hx, b, e, e1, e2⟩ := h2 v hv
      exact ⟨xs, List.mem_cons_of_mem _ hx, b, e, s1.free e1, e2⟩
theorem strLs_it (xss : List (List Str)) (σ : L2.St) (H : Hp) (Q : List V → Hp → Prop) (hl : ∀ x ∈ xss, x.length ≤ 100)
    (h : ∀ vs H', Same H H' → vs.length = xss.length → (∀ v ∈ vs, ∃ xs ∈ xss, NewL H H' v xs) → Q vs H') : tStrLs xss σ H Q := by
  unfold tStrLs
  exact strLs_it0 xss σ H Q hl h
def statesSome : List (List Str) := [["p"], ["p", "q"], ["s", "st", "t"], ["p", "q", "r", "zzzzzzzz"], ["a", "b", "c", "d", "e", "f"]]
def lettersSome : List (List Str) := [["a"], ["a", "b"], ["a", "n", "z"], ["b", "a", "x", "y"]]
theorem lit_states : (tCons (tLst (tCons (tC (V.str "p")) tNil)) (tCons (tLst (tCons (tC (V.str "p")) (tCons (tC (V.str "q")) tNil))) (tCons (tLst (tCons (tC (V.str "s")) (tCons (tC (V.str "st")) (tCons (tC (V.str "t")) tNil)))) (tCons (tLst (tCons (tC (V.str "p")) (tCons (tC (V.str "q")) (tCons (tC (V.str "r")) (tCons (tC (V.str "zzzzzzzz")) tNil))))) (tCons (tLst (tCons (tC (V.str "a")) (tCons (tC (V.str "b")) (tCons (tC (V.str "c")) (tCons (tC (V.str "d")) (tCons (tC (V.str "e")) (tCons (tC (V.str "f")) tNil))))))) tNil))))) = tStrLs statesSome := by
  unfold tStrLs
  rfl
theorem lit_letters : (tCons (tLst (tCons (tC (V.str "a")) tNil)) (tCons (tLst (tCons (tC (V.str "a")) (tCons (tC (V.str "b")) tNil))) (tCons (tLst (tCons (tC (V.str "a")) (tCons (tC (V.str "n")) (tCons (tC (V.str "z")) tNil)))) (tCons (tLst (tCons (tC (V.str "b")) (tCons (tC (V.str "a")) (tCons (tC (V.str "x")) (tCons (tC (V.str "y")) tNil))))) tNil)))) = tStrLs lettersSome := by
  unfold tStrLs
  rfl
theorem statesSome_ok : ∀ xs ∈ statesSome, xs.length ≤ 6 ∧ 0 < xs.length ∧ ∀ x ∈ xs, isName x = true := by decide +kernel
theorem lettersSome_ok : ∀ xs ∈ lettersSome, xs.length ≤ 4 ∧ 0 < xs.length ∧ ∀ x ∈ xs, isLet x = true := by decide +kernel
theorem ans_ok : ∀ x ∈ (["", "a", "b", "an", "zzzz", "nz", "bbbb"] : List Str), isAns x = true := by decide +kernel
theorem ans_let {x : Str} (h : isLet x = true) : isAns x = true ∧ isAns (x ++ "n") = true := by
  unfold isLet okL at h
  unfold isAns okL
  simp only [Bool.and_eq_true, decide_eq_true_eq, List.all_eq_true] at h ⊢
  obtain ⟨h1, h2, h3⟩ := h
  have e : (x ++ "n" : Str).cps.toList = x.cps.toList ++ [110] := by
    show (x.cps ++ ("n" : Str).cps).toList = _
    rw [Array.toList_append]
    rfl
  refine ⟨⟨Nat.zero_le _, by omega, h3⟩, Nat.zero_le _, ?_, fun c hc => ?_⟩
  · rw [strLen_append]
    have : ("n" : Str).length = 1 := rfl
    omega
  · rw [e] at hc
    rcases List.mem_append.mp hc with hc | hc
    · exact h3 c hc
    · rw [List.mem_singleton.mp hc]
      decide +kernel
/-- how things stand in the draw of parts -/
structure Lp (K : PySem.W.Frag) (p c A1 A2 D Tl : Addr) (ns : List Int) (ss ls : List Str) (H G : Hp) (n : Nat) (st : List StE) (tl : List (Str × Str)) : Prop where
  gp : PenAt G p c ns n
  gb : But p H G
  ga1 : G A1 = some (.lst (ss.map V.str))
  ga2 : G A2 = some (.lst (ls.map V.str))
  gst : StAt K G D st
  gtl : G Tl = some (.dK (tl.map tlKv))
  gnd : (tl.map (·.1)).Nodup
  gam : Among ss ls st tl
theorem Lp.same {K : PySem.W.Frag} {p c A1 A2 D Tl : Addr} {ns : List Int} {ss ls : List Str} {H G G' : Hp} {n : Nat} {st : List StE} {tl : List (Str × Str)} (h : Lp K p c A1 A2 D Tl ns ss ls H G n st tl) (s : Same G G') :
    Lp K p c A1 A2 D Tl ns ss ls H G' n st tl :=
  ⟨h.gp.same s, But.tr h.gb (But.of_same s), s _ _ h.ga1, s _ _ h.ga2, h.gst.same s, s _ _ h.gtl, h.gnd, h.gam⟩
theorem Lp.draw {K : PySem.W.Frag} {p c A1 A2 D Tl : Addr} {ns : List Int} {ss ls : List Str} {H G G' : Hp} {n m : Nat} {st : List StE} {tl : List (Str × Str)} (h : Lp K p c A1 A2 D Tl ns ss ls H G n st tl) (n1 : A1 ≠ p) (n2 : A2 ≠ p)
    (gp : PenAt G' p c ns m) (b : But p G G') : Lp K p c A1 A2 D Tl ns ss ls H G' m st tl := by
  obtain ⟨t, g, a, _⟩ := id h.gp
  exact ⟨gp, But.tr h.gb b, b _ n1 _ h.ga1, b _ n2 _ h.ga2, h.gst.but a b, b _ (fun z => by have := h.gtl; rw [z, a] at this; cases this) _ h.gtl, h.gnd, h.gam⟩
theorem Lp.mono {K : PySem.W.Frag} {p c A1 A2 D Tl : Addr} {ns : List Int} {ss ls : List Str} {H G : Hp} {n m : Nat} {st : List StE} {tl : List (Str × Str)} (h : Lp K p c A1 A2 D Tl ns ss ls H G n st tl) (le : n ≤ m) :
    Lp K p c A1 A2 D Tl ns ss ls H G m st tl := ⟨h.gp.mono le, h.gb, h.ga1, h.ga2, h.gst, h.gtl, h.gnd, h.gam⟩
theorem Lp.putS {K : PySem.W.Frag} {p c A1 A2 D Tl q : Addr} {ns : List Int} {ss ls : List Str} {H G : Hp} {n : Nat} {st : List StE} {tl : List (Str × Str)} {kvs : List (List Key × V)} (h : Lp K p c A1 A2 D Tl ns ss ls H G n st tl)
    (hD : H D = none) (e : StE) (he : e.1.1 ∈ ss ∧ e.1.2 ∈ ls ∧ isAns e.2.1 = true ∧ e.2.2 ∈ ss) (gD : G D = some (.dT kvs)) (sk : StK K G kvs st) (nd : (kvs.map (·.1)).Nodup) (hq : SqT K G q [.str e.2.1, .str e.2.2]) :
    Lp K p c A1 A2 D Tl ns ss ls H (upd G D (.dT (putK kvs (stK e) (.ref q)))) n (putSt st e) tl where
  gp := h.gp.upd gD (fun _ z => by cases z)
  gb := fun b hb o eb => upd_oth (fun z => by rw [z, hD] at eb; cases eb) (h.gb b hb o eb)
  ga1 := upd_oth (fun z => by have := h.ga1; rw [z, gD] at this; cases this) h.ga1
  ga2 := upd_oth (fun z => by have := h.ga2; rw [z, gD] at this; cases this) h.ga2
  gst := ⟨_, upd_same, StK.updT gD (sk.put hq), nd_put nd⟩
  gtl := upd_oth (fun z => by have := h.gtl; rw [z, gD] at this; cases this) h.gtl
  gnd := h.gnd
  gam := h.gam.put he
theorem Lp.putT {K : PySem.W.Frag} {p c A1 A2 D Tl : Addr} {ns : List Int} {ss ls : List Str} {H G : Hp} {n : Nat} {st : List StE} {tl : List (Str × Str)} (h : Lp K p c A1 A2 D Tl ns ss ls H G n st tl)
    (hT : H Tl = none) (e : Str × Str) (he : e.1 ∈ ss ∧ isAns e.2 = true) :
    Lp K p c A1 A2 D Tl ns ss ls H (upd G Tl (.dK (putK (tl.map tlKv) (.inr e.1) (.str e.2)))) n st (putTl tl e) where
  gp := h.gp.upd h.gtl (fun _ z => by cases z)
  gb := fun b hb o eb => upd_oth (fun z => by rw [z, hT] at eb; cases eb) (h.gb b hb o eb)
  ga1 := upd_oth (fun z => by have := h.ga1; rw [z, h.gtl] at this; cases this) h.ga1
  ga2 := upd_oth (fun z => by have := h.ga2; rw [z, h.gtl] at this; cases this) h.ga2
  gst := h.gst.updK h.gtl
  gtl := by rw [tlKv_put]; exact upd_same
  gnd := nd_putTl h.gnd
  gam := h.gam.putT he
section
variable {P : Program} {w : World} {K : PySem.W.Frag} {mg : Str → Option Value} {base : Heap}
def spParts (K : PySem.W.Frag) : Sp := fun vs H Q _ => ∃ (p c : Addr) (ns : List Int) (n : Nat), vs = [.ref p] ∧ PenAt H p c ns n ∧ ns.length ≤ 63 ∧ n < 900000 ∧
  ∀ (q : Addr) (s : Str) (st : List StE) (tl : List (Str × Str)) (H' : Hp), OkParts s st tl → (∃ ss ∈ statesSome, ∃ ls ∈ lettersSome, s ∈ ss ∧ Among ss ls st tl) → PtAt K H' q s st tl → PenAt H' p c ns (n + 100) → But p H H' → Q (.ref q) H'
theorem kp_parts (T : Txt K mg) : Kf P w K mg base 3 "_law_parts" ["_law_pen_here"] (spParts K) := by
  refine T.d_lparts.okF sc_lparts (fun vs H Q E h => ?_) (fun f cdv A outer s H vs Q E hA hr h => ?_)
  · obtain ⟨p, c, ns, n, rfl, _⟩ := h
    rfl
  · obtain ⟨p, c, ns, n, rfl, hp, hlen, hn, k⟩ := h
    refine ⟨_, (pss_cons (ps_set (i := 1) sc_lparts.nd rfl (Or.inl rfl) (pe_lst (pa_cons (pe_lst (pa_cons (pe_str) pa_nil)) (pa_cons (pe_lst (pa_cons (pe_str) (pa_cons (pe_str) pa_nil))) (pa_cons (pe_lst (pa_cons (pe_str) (pa_cons (pe_str) (pa_cons (pe_str) pa_nil)))) (pa_cons (pe_lst (pa_cons (pe_str) (pa_cons (pe_str) (pa_cons (pe_str) (pa_cons (pe_str) pa_nil))))) (pa_cons (pe_lst (pa_cons (pe_str) (pa_cons (pe_str) (pa_cons (pe_str) (pa_cons (pe_str) (pa_cons (pe_str) (pa_cons (pe_str) pa_nil))))))) pa_nil)))))))
 (pss_cons (ps_set (i := 2) sc_lparts.nd rfl (Or.inl rfl) (pe_kf (kp_pick T) hA hr (by rfl) (pa_cons (pv 0) (pa_cons (pv 1) pa_nil))))
 (pss_cons (ps_set (i := 3) sc_lparts.nd rfl (Or.inl rfl) (pe_kf (kp_pick T) hA hr (by rfl) (pa_cons (pv 0) (pa_cons (pe_lst (pa_cons (pe_lst (pa_cons (pe_str) pa_nil)) (pa_cons (pe_lst (pa_cons (pe_str) (pa_cons (pe_str) pa_nil))) (pa_cons (pe_lst (pa_cons (pe_str) (pa_cons (pe_str) (pa_cons (pe_str) pa_nil)))) (pa_cons (pe_lst (pa_cons (pe_str) (pa_cons (pe_str) (pa_cons (pe_str) (pa_cons (pe_str) pa_nil))))) pa_nil))))) pa_nil))))
 (pss_cons (ps_par (i := 4) (j := 5) (by rfl) sc_lparts.nd rfl rfl (by decide) rfl rfl (pa_cons pe_dnewT (pa_cons pe_dnewK pa_nil)) (by rfl))
 (pss_cons (ps_for PassesOwn.never rfl (pi_list (pv 2)) (pg_name (i := 6) sc_lparts.nd rfl (Or.inl rfl))
 (pss_cons (ps_for PassesOwn.never rfl (pi_list (pv 3)) (pg_name (i := 7) sc_lparts.nd rfl (Or.inl rfl))
 (pss_one (ps_if (pt_cmpR op_gt (pe_kf (kp_draw T) hA hr (by rfl) (pa_cons (pv 0) (pa_cons (pe_int) pa_nil))) (pe_int) (nomark _))
 (pss_cons (ps_set (i := 8) sc_lparts.nd rfl (Or.inl rfl) (pe_kf (kp_pick T) hA hr (by rfl) (pa_cons (pv 0) (pa_cons (pe_lst (pa_cons (pe_str) (pa_cons (pe_str) (pa_cons (pe_str) (pa_cons (pe_str) (pa_cons (pe_str) (pa_cons (pv 7) (pa_cons (pe_op op_add_str (pv 7) (pe_str)) pa_nil)))))))) pa_nil))))
 (pss_one (ps_asg (pe_tup (pa_cons (pv 8) (pa_cons (pe_kf (kp_pick T) hA hr (by rfl) (pa_cons (pv 0) (pa_cons (pv 2) pa_nil))) pa_nil))) (pg_sub (pv 4) (pe_tup (pa_cons (pv 6) (pa_cons (pv 7) pa_nil))) (set_dict (hu_of hr)))))) pss_nil)))
 (pss_one (ps_if (pt_cmpR op_gt (pe_kf (kp_draw T) hA hr (by rfl) (pa_cons (pv 0) (pa_cons (pe_int) pa_nil))) (pe_int) (nomark _))
 (pss_one (ps_asg (pe_kf (kp_pick T) hA hr (by rfl) (pa_cons (pv 0) (pa_cons (pe_lst (pa_cons (pe_str) (pa_cons (pe_str) (pa_cons (pe_str) (pa_cons (pe_str) (pa_cons (pe_str) pa_nil)))))) pa_nil))) (pg_sub (pv 5) (pv 6) (set_dict (hu_of hr))))) pss_nil))))
 (pss_one (ps_ret (pe_tup (pa_cons (pe_kf (kp_pick T) hA hr (by rfl) (pa_cons (pv 0) (pa_cons (pv 2) pa_nil))) (pa_cons (pv 4) (pa_cons (pv 5) pa_nil))))))))))), ?_⟩
    rw [lit_states, lit_letters]
    have np : ∀ {G : Hp} {a : Addr}, Same H G → G a = none → a ≠ p := fun s h z => by
      obtain ⟨t, g, a, _⟩ := hp
      rw [z] at h
      have := s _ _ a
      rw [h] at this
      cases this
    refine strLs_it statesSome _ H _ (fun x hx => Nat.le_trans (statesSome_ok x hx).1 (by decide)) fun v1 H1 s1 l1 h1 => ?_
    refine ⟨by rw [l1]; decide, fun L1 hL1 => ?_⟩
    have s2 := s1.trans (Same.new (u := .lst v1) hL1)
    refine ⟨_, rfl, _, rfl, p, c, L1, v1, ns, n, rfl, hp.same s2, hlen, upd_same, np s1 hL1, by rw [l1]; decide, by rw [l1]; decide, by omega, fun A1v H2 hv1 hp2 b2 => ?_⟩
    obtain ⟨ss, hss, A1, rfl, f1, g1⟩ := h1 A1v hv1
    have hA1 : H2 A1 = some (.lst (ss.map V.str)) := b2 A1 (np (fun _ _ e => e) f1) _ (upd_new hL1 g1)
    have b02 : But p H H2 := But.tr (But.of_same s2) b2
    obtain ⟨so1, so2, so3⟩ := statesSome_ok ss hss
    clear h1 hv1 g1
    refine ⟨_, rfl, ?_⟩
    refine strLs_it lettersSome _ H2 _ (fun x hx => Nat.le_trans (lettersSome_ok x hx).1 (by decide)) fun v3 H3 s3 l3 h3 => ?_
    refine ⟨by rw [l3]; decide, fun L3 hL3 => ?_⟩
    have s34 := s3.trans (Same.new (u := .lst v3) hL3)
    have np2 : ∀ {G : Hp} {a : Addr}, Same H2 G → G a = none → a ≠ p := fun s h z => by
      obtain ⟨t, g, a, _⟩ := hp2
      rw [z] at h
      have := s _ _ a
      rw [h] at this
      cases this
    refine ⟨p, c, L3, v3, ns, n + 1, rfl, hp2.same s34, hlen, upd_same, np2 s3 hL3, by rw [l3]; decide, by rw [l3]; decide, by omega, fun A2v H4 hv3 hp4 b4 => ?_⟩
    obtain ⟨ls, hls, A2, rfl, f2, g2⟩ := h3 A2v hv3
    have hA2 : H4 A2 = some (.lst (ls.map V.str)) := b4 A2 (np2 (fun _ _ e => e) f2) _ (upd_new hL3 g2)
    have nA1 : A1 ≠ p := np (fun _ _ e => e) f1
    have nA2 : A2 ≠ p := np2 (fun _ _ e => e) f2
    have hA14 : H4 A1 = some (.lst (ss.map V.str)) := b4 A1 nA1 _ (s34 _ _ hA1)
    have b04 : But p H H4 := But.tr b02 (But.tr (But.of_same s34) b4)
    obtain ⟨lo1, lo2, lo3⟩ := lettersSome_ok ls hls
    clear h3 hv3 g2
    refine fun D hD Tl hTl => ⟨_, _, rfl, ?_⟩
    have s5 := (Same.new (u := .dT []) hD).trans (Same.new (u := .dK []) hTl)
    have gD : upd (upd H4 D (.dT [])) Tl (.dK []) D = some (.dT []) := upd_new hTl upd_same
    have gT : upd (upd H4 D (.dT [])) Tl (.dK []) Tl = some (.dK []) := upd_same
    have hT4 : H4 Tl = none := (Same.new (u := .dT []) hD).free hTl
    have nDT : D ≠ Tl := fun z => by rw [z] at hD; rw [z, upd_same] at hTl; cases hTl
    generalize upd (upd H4 D (.dT [])) Tl (.dK []) = H5 at s5 gD gT
    refine ⟨_, rfl, A1, rfl, ⟨_, SqL.of (s5 _ _ hA14)⟩, ?_⟩
    refine for_it (walk_list (K := K) (a := A1) (xs := ss.map V.str)) (fun i σ H' => ∃ (v6 v7 v8 : Option V) (st : List StE) (tl : List (Str × Str)), σ = [some (.ref p), some (.ref L1), some (.ref A1), some (.ref A2), some (.ref D), some (.ref Tl), v6, v7, v8] ∧
      Lp K p c A1 A2 D Tl ns ss ls H4 H' (n + 2 + 14 * i) st tl ∧ st.length ≤ 4 * i ∧ tl.length ≤ i)
      ⟨_, _, _, [], [], rfl, ⟨(hp4.same s5).mono (by omega), But.of_same s5, s5 _ _ hA14, s5 _ _ hA2, ⟨[], gD, ⟨rfl, fun i e h => by cases h⟩, by simp⟩, gT, by simp, ⟨fun e he => (by cases he), fun e he => (by cases he)⟩⟩, by decide, by decide⟩
      (fun i σ H' _ h => by obtain ⟨_, _, _, _, _, _, h, _⟩ := h; exact SqL.of h.ga1) ?_ ?_
    · rintro i x σ G G' hi ⟨v6, v7, v8, st, tl, rfl, lp, gl, gl2⟩ ⟨rfl, hx⟩
      rw [List.length_map] at hi
      rw [List.getElem?_map, List.getElem?_eq_getElem hi] at hx
      obtain rfl : V.str ss[i] = x := Option.some.inj hx
      have hmem : ss[i] ∈ ss := List.getElem_mem hi
      have hi6 : i < 6 := by omega
      generalize ss[i] = sn at hmem
      refine ⟨_, rfl, A2, rfl, ⟨_, SqL.of lp.ga2⟩, ?_⟩
      refine for_it (walk_list (K := K) (a := A2) (xs := ls.map V.str)) (fun j σ H' => ∃ (v7 v8 : Option V) (st : List StE), σ = [some (.ref p), some (.ref L1), some (.ref A1), some (.ref A2), some (.ref D), some (.ref Tl), some (.str sn), v7, v8] ∧
        Lp K p c A1 A2 D Tl ns ss ls H4 H' (n + 2 + 14 * i + 3 * j) st tl ∧ st.length ≤ 4 * i + j)
        ⟨_, _, st, rfl, lp, gl⟩ (fun i σ H' _ h => by obtain ⟨_, _, _, _, h, _⟩ := h; exact SqL.of h.ga2) ?_ ?_
      · rintro j x σ G1 G2 hj ⟨v7, v8, st1, rfl, lp1, gl1⟩ ⟨rfl, hx⟩
        rw [List.length_map] at hj
        rw [List.getElem?_map, List.getElem?_eq_getElem hj] at hx
        obtain rfl : V.str ls[j] = x := Option.some.inj hx
        have hmemL : ls[j] ∈ ls := List.getElem_mem hj
        have hj4 : j < 4 := by omega
        generalize ls[j] = ln at hmemL
        refine ⟨_, rfl, p, c, 4, ns, _, rfl, lp1.gp, hlen, by decide, by decide, by omega, fun r H6 r0 r1 gp6 b6 => ?_⟩
        have lp2 := lp1.draw nA1 nA2 gp6 b6
        refine ⟨_, _, rfl, rfl, _, rfl, ?_⟩
        refine ite2 (fun c1 => ?_) (fun c1 => ?_)
        · have hlet := lo3 ln hmemL
          have hl1 : ln.length ≤ 1 := okL_le hlet
          refine ⟨_, rfl, _, rfl, _, rfl, ln, "n", rfl, rfl, Nat.le_trans (show ln.length + 1 ≤ 2 by omega) (by decide), (by show 7 ≤ sizeLine; decide), fun L hL => ?_⟩
          have np7 : L ≠ p := fun z => by
            obtain ⟨t, g, a, _⟩ := gp6
            rw [z, a] at hL
            cases hL
          have s7 := Same.new (u := .lst [.str "", .str "a", .str "b", .str "an", .str "zzzz", .str ln, .str (ln ++ "n")]) hL
          have lp3 := lp2.same s7
          refine ⟨p, c, L, _, ns, _, rfl, lp3.gp, hlen, upd_same, np7, (by show 0 < 7; decide), (by show 7 < 1000000; decide), by omega, fun v H8 hv gp8 b8 => ?_⟩
          have lp4 := lp3.draw nA1 nA2 gp8 b8
          obtain ⟨an, rfl, han⟩ : ∃ an : Str, v = .str an ∧ isAns an = true := by
            simp only [List.mem_cons, List.not_mem_nil, or_false] at hv
            rcases hv with rfl | rfl | rfl | rfl | rfl | rfl | rfl
            · exact ⟨_, rfl, ans_ok _ (by decide)⟩
            · exact ⟨_, rfl, ans_ok _ (by decide)⟩
            · exact ⟨_, rfl, ans_ok _ (by decide)⟩
            · exact ⟨_, rfl, ans_ok _ (by decide)⟩
            · exact ⟨_, rfl, ans_ok _ (by decide)⟩
            · exact ⟨_, rfl, (ans_let hlet).1⟩
            · exact ⟨_, rfl, (ans_let hlet).2⟩
          refine ⟨_, rfl, _, rfl, _, rfl, p, c, A1, _, ns, _, rfl, lp4.gp, hlen, lp4.ga1, nA1, by rw [List.length_map]; exact so2, by rw [List.length_map]; exact Nat.lt_of_le_of_lt so1 (by decide), by omega, fun v H9 hv2 gp9 b9 => ?_⟩
          have lp5 := lp4.draw nA1 nA2 gp9 b9
          obtain ⟨to, hto, rfl⟩ := List.mem_map.mp hv2
          refine ⟨(by show 2 ≤ sizeLine; decide), fun q hq => ?_⟩
          have lp6 := lp5.same (Same.new (u := .tup [.str an, .str to]) hq)
          have gq : upd H9 q (.tup [.str an, .str to]) q = some (.tup [.str an, .str to]) := upd_same
          generalize upd H9 q (.tup [.str an, .str to]) = H10 at lp6 gq
          refine ⟨_, rfl, _, rfl, _, rfl, (by show 2 ≤ sizeLine; decide), fun kt hkt => ?_⟩
          have s11 := Same.new (u := .tup [.str sn, .str ln]) hkt
          have lp7 := lp6.same s11
          have gq' := s11 _ _ gq
          have gk : upd H10 kt (.tup [.str sn, .str ln]) kt = some (.tup [.str sn, .str ln]) := upd_same
          generalize upd H10 kt (.tup [.str sn, .str ln]) = H11 at lp7 gq' gk
          obtain ⟨kvs, gD7, sk, nd7⟩ := lp7.gst.ex
          have e : StE := ((sn, ln), (an, to))
          have lp8 := lp7.putS hD ((sn, ln), (an, to)) ⟨hmem, hmemL, han, hto⟩ gD7 sk nd7 (SqT.of gq')
          have hk24 : kvs.length ≤ 28 := by
            rw [sk.len]
            omega
          refine ⟨D, _, rfl, .inr ⟨kvs, stK ((sn, ln), (an, to)), kt, gD7, rfl, gk, Nat.lt_of_le_of_lt hk24 (by decide), rfl⟩, ?_⟩
          exact ⟨_, _, _, rfl, lp8.mono (by omega), by have := len_putSt st1 ((sn, ln), (an, to)); omega⟩
        · exact ⟨_, _, st1, rfl, lp2.mono (by omega), by omega⟩
      · rintro σ G1 ⟨v7, v8, st1, rfl, lp1, gl1⟩
        rw [List.length_map] at gl1
        refine ⟨_, rfl, p, c, 3, ns, _, rfl, lp1.gp, hlen, by decide, by decide, by rw [List.length_map]; omega, fun r H6 r0 r1 gp6 b6 => ?_⟩
        have lp2 := (lp1.draw nA1 nA2 gp6 b6).mono (m := n + 2 + 14 * i + 13) (by rw [List.length_map]; omega)
        refine ⟨_, _, rfl, rfl, _, rfl, ?_⟩
        refine ite2 (fun c1 => ?_) (fun c1 => ?_)
        · refine ⟨_, rfl, (by show 5 ≤ sizeLine; decide), fun L hL => ?_⟩
          have np7 : L ≠ p := fun z => by
            obtain ⟨t, g, a, _⟩ := gp6
            rw [z, a] at hL
            cases hL
          have lp3 := lp2.same (Same.new (u := .lst [.str "", .str "", .str "a", .str "nz", .str "bbbb"]) hL)
          refine ⟨p, c, L, _, ns, _, rfl, lp3.gp, hlen, upd_same, np7, (by show 0 < 5; decide), (by show 5 < 1000000; decide), by omega, fun v H8 hv gp8 b8 => ?_⟩
          have lp4 := lp3.draw nA1 nA2 gp8 b8
          obtain ⟨an, rfl, han⟩ : ∃ an : Str, v = .str an ∧ isAns an = true := by
            simp only [List.mem_cons, List.not_mem_nil, or_false] at hv
            rcases hv with rfl | rfl | rfl | rfl | rfl
            · exact ⟨_, rfl, ans_ok _ (by decide)⟩
            · exact ⟨_, rfl, ans_ok _ (by decide)⟩
            · exact ⟨_, rfl, ans_ok _ (by decide)⟩
            · exact ⟨_, rfl, ans_ok _ (by decide)⟩
            · exact ⟨_, rfl, ans_ok _ (by decide)⟩
          have lp8 := lp4.putT hT4 (sn, an) ⟨hmem, han⟩
          refine ⟨_, rfl, _, rfl, Tl, _, rfl, .inl ⟨_, .inr sn, lp4.gtl, rfl, ?_, rfl⟩, ?_⟩
          · rw [List.length_map]
            exact Nat.lt_of_le_of_lt (show tl.length ≤ 6 by omega) (by decide)
          · exact ⟨_, _, _, st1, _, rfl, lp8.mono (by omega), by omega, by have := len_putTl tl (sn, an); omega⟩
        · exact ⟨_, _, _, st1, tl, rfl, lp2.mono (by omega), by omega, by omega⟩
    · rintro σ G ⟨v6, v7, v8, st, tl, rfl, lp, gl, gl2⟩
      rw [List.length_map] at lp gl gl2
      refine ⟨_, rfl, _, rfl, p, c, A1, _, ns, _, rfl, lp.gp, hlen, lp.ga1, nA1, by rw [List.length_map]; exact so2, by rw [List.length_map]; exact Nat.lt_of_le_of_lt so1 (by decide), by omega, fun v6 H6 hv6 gp6 b6 => ?_⟩
      have lp2 := lp.draw nA1 nA2 gp6 b6
      obtain ⟨sn, hsn, rfl⟩ := List.mem_map.mp hv6
      refine ⟨_, rfl, _, rfl, (by show 3 ≤ sizeLine; decide), fun q hq => ?_⟩
      have s7 := Same.new (u := .tup [.str sn, .ref D, .ref Tl]) hq
      have lp3 := (lp2.same s7).mono (m := n + 100) (by omega)
      exact k q sn st tl _ (lp3.gam.ok hsn so3 lo3 so1 lo1 (by omega) (by omega)) ⟨ss, hss, ls, hls, hsn, lp3.gam⟩ ⟨D, Tl, upd_same, lp3.gst, lp3.gtl, lp3.gnd⟩ lp3.gp (But.tr b04 lp3.gb)
end
end KC
namespace KC
open PySem L2 PyProof.Rows
theorem addN_mem1 (l : List Str) (x : Str) : x ∈ addN l x := by
  unfold addN
  split
  · assumption
  · simp
theorem addN_mem2 {l : List Str} {x y : Str} (h : y ∈ l) : y ∈ addN l x := by
  unfold addN
  split
  · exact h
  · exact List.mem_append_left _ h
theorem foldN_mem {y : Str} : ∀ (xs l : List Str), y ∈ l → y ∈ xs.foldl addN l
  | [], l, h => h
  | x :: xs, l, h => by
    rw [List.foldl_cons]
    exact foldN_mem xs _ (addN_mem2 h)
theorem foldS_mem {y : Str} : ∀ (st : List StE) (l : List Str), y ∈ l → y ∈ st.foldl addS l
  | [], l, h => h
  | e :: st, l, h => by
    rw [List.foldl_cons]
    exact foldS_mem st _ (addN_mem2 (addN_mem2 h))
theorem foldS_to {e : StE} : ∀ (st : List StE) (l : List Str), e ∈ st → e.2.2 ∈ st.foldl addS l
  | [], l, h => by cases h
  | x :: st, l, h => by
    rw [List.foldl_cons]
    rcases List.mem_cons.mp h with rfl | h
    · exact foldS_mem st _ (addN_mem1 _ _)
    · exact foldS_to st _ h
theorem names_start (s : Str) (st : List StE) (tl : List (Str × Str)) : s ∈ namesOf s st tl := foldN_mem _ _ (foldS_mem _ _ (by simp))
theorem names_from {s : Str} {e : StE} {st : List StE} {tl : List (Str × Str)} (h : e ∈ st) : e.1.1 ∈ namesOf s st tl ∧ e.2.2 ∈ namesOf s st tl := by
  have go : ∀ (st : List StE) (l : List Str), e ∈ st → e.1.1 ∈ st.foldl addS l := by
    intro st
    induction st with
    | nil => intro l h; cases h
    | cons x st ih =>
      intro l h
      rw [List.foldl_cons]
      rcases List.mem_cons.mp h with rfl | h
      · exact foldS_mem st _ (addN_mem2 (addN_mem1 _ _))
      · exact ih _ h
  exact ⟨foldN_mem _ _ (go st [s] h), foldN_mem _ _ (foldS_to st [s] h)⟩
theorem names_tl {s : Str} {e : Str × Str} {st : List StE} {tl : List (Str × Str)} (h : e ∈ tl) : e.1 ∈ namesOf s st tl := by
  have go : ∀ (xs : List Str) (l : List Str) (y : Str), y ∈ xs → y ∈ xs.foldl addN l := by
    intro xs
    induction xs with
    | nil => intro l y h; cases h
    | cons x xs ih =>
      intro l y h
      rw [List.foldl_cons]
      rcases List.mem_cons.mp h with rfl | h
      · exact foldN_mem _ _ (addN_mem1 _ _)
      · exact ih _ _ h
  exact go _ _ _ (List.mem_map.mpr ⟨e, h, rfl⟩)
theorem make_ok {K : PySem.W.Frag} {mg : Str → Option Value} {G : Hp} {d t x dx : Addr} {s : Str} {st : List StE} {tl : List (Str × Str)} {Q : Hp → Prop} {E : XK} (hst : StAt K G d st) (ht : G t = some (.dK (tl.map tlKv))) (nd : (tl.map (·.1)).Nodup)
    (ok : OkParts s st tl) (hx : G x = none) (hdx : G dx = none) (ne : dx ≠ x) (k : ∀ H2, Same G H2 → CvAt K (gC mg) H2 x s st tl → Q H2) :
    spInit K (gC mg) [.ref x, .str s, .ref d, .ref t] (upd (upd G dx (.own x)) x (.ins (gC mg) dx [])) (fun v H2 => v = .non ∧ Q H2) E := by
  have s1 : Same G (upd (upd G dx (.own x)) x (.ins (gC mg) dx [])) := (Same.new hdx).trans (Same.new (by rw [upd_ne (Ne.symm ne)]; exact hx))
  refine ⟨x, dx, d, t, s, st, tl, rfl, upd_same, hst.same s1, s1 _ _ ht, nd, ok, fun H2 b cv => ⟨rfl, k H2 (fun a o e => b a (fun z => by rw [z, hx] at e; cases e) _ (s1 _ _ e)) cv⟩⟩
theorem inV_strs (q : Str) (ys : List Str) : inV (.str q) (ys.map V.str) = decide (q ∈ ys) := by
  unfold inV
  rw [List.any_map, Bool.eq_iff_iff, List.any_eq_true, decide_eq_true_eq]
  constructor
  · rintro ⟨y, hy, e⟩
    have : eqV (.str y) (.str q) = true := e
    have : y = q := by simpa [eqV] using this
    rw [← this]
    exact hy
  · intro h
    exact ⟨q, h, by simp [eqV]⟩
theorem flat_strs (ys : List Str) : (ys.map V.str).all flatV = true := by
  rw [List.all_map, List.all_eq_true]
  intro y _
  rfl
theorem mem_foldN {y : Str} : ∀ (xs l : List Str), y ∈ xs → y ∈ xs.foldl addN l
  | [], l, h => nomatch h
  | x :: xs, l, h => by
    rw [List.foldl_cons]
    rcases List.mem_cons.mp h with rfl | h
    · exact foldN_mem _ _ (addN_mem1 _ _)
    · exact mem_foldN _ _ h
theorem StK.snoc {K : PySem.W.Frag} {H : Hp} {kv : List (List Key × V)} {st : List StE} {q : Addr} {e : StE} (h : StK K H kv st) (hq : SqT K H q [.str e.2.1, .str e.2.2]) :
    StK K H (kv ++ [(stK e, .ref q)]) (st ++ [e]) := by
  refine ⟨by rw [List.map_append, List.map_append, h.1]; rfl, fun i x hx => ?_⟩
  have len := h.len
  rcases Nat.lt_or_ge i st.length with lt | ge
  · rw [List.getElem?_append_left lt] at hx
    obtain ⟨a, b, c⟩ := h.2 i x hx
    exact ⟨a, by rw [List.getElem?_append_left (by rw [len]; exact lt)]; exact b, c⟩
  · rw [List.getElem?_append_right ge] at hx
    obtain ⟨z, hz⟩ := List.getElem?_eq_some_iff.mp hx
    have e0 : i - st.length = 0 := by
      rw [List.length_singleton] at z
      omega
    rw [e0] at hx
    obtain rfl : e = x := Option.some.inj hx
    exact ⟨q, by rw [List.getElem?_append_right (by rw [len]; exact ge), len, e0]; rfl, hq⟩
end KC
namespace KC
open PySem L2 PyProof.Rows
section
variable {P : Program} {w : World} {K : PySem.W.Frag} {mg : Str → Option Value} {base : Heap}
/-- any value: a tuple, or of another kind -/
def NoTup (K : PySem.W.Frag) (H : Hp) (v : V) : Prop := ∃ t, (∀ H', Same H H' → TyOf K H' v t) ∧ PySem.W.kitOne K t (.type "tuple") = some false
def spPairX (K : PySem.W.Frag) : Sp := fun vs H Q _ => ∃ v : V, vs = [v] ∧ ((∃ (a : Addr) (xs : List V), v = .ref a ∧ SqT K H a xs ∧ Q (.bl (decide (xs.length = 2))) H) ∨ (NoTup K H v ∧ Q (.bl false) H))
theorem kp_pairX (T : Txt K mg) : Kf P w K mg base 1 "is_pair" ["value"] (spPairX K) := by
  refine T.d_ipair.okF sc_ipair (fun vs H Q E h => ?_) (fun f cdv A outer s H vs Q E hA hr h => ?_)
  · obtain ⟨v, rfl, _⟩ := h
    rfl
  · obtain ⟨v, rfl, h⟩ := h
    refine ⟨_, (pss_one (ps_ret ((pe_and (pe_callB call_isi (by rfl) (T.nb _ (by decide)) (by decide +kernel) (pa_cons (pv 0) (pa_cons (pe_bltn (v := .ty "tuple") (by rfl) (T.nb _ (by decide)) (by decide +kernel) rfl) pa_nil))) (pe_one (pe_cmpR op_eq (pe_callB call_len (by rfl) (T.nb _ (by decide)) PySem.boot_len (pa_cons (pv 0) pa_nil)) (pe_int) (nomark _))))))), ?_⟩
    rcases h with ⟨a, xs, rfl, hs, k⟩ | ⟨⟨t, ty, kt⟩, k⟩
    · refine ⟨_, rfl, .ref a, _, _, _, true, rfl, .ty "tuple", sqT_ty hs, kit_ty (by decide +kernel), _, rfl, iteT ?_⟩
      refine ⟨_, rfl, .ref a, _, rfl, .inr ⟨_, hs, rfl⟩, rfl, ?_⟩
      have e : decide (V.int (xs.length : Int) = V.int 2) = decide (xs.length = 2) := by
        rw [decide_eq_decide]
        exact ⟨fun z => by have := V.int.inj z; omega, fun z => by rw [z]; rfl⟩
      show Q (.bl (decide (V.int (xs.length : Int) = V.int 2))) H
      rw [e]
      exact k
    · exact ⟨_, rfl, v, _, _, _, false, rfl, .ty "tuple", .base (ty H (fun _ _ h => h)), kt, _, rfl, iteF k⟩
def spTail (K : PySem.W.Frag) (C : Addr) : Sp := fun vs H Q _ => ∃ (x : Addr) (q s : Str) (st : List StE) (tl : List (Str × Str)), vs = [.ref x, .str q] ∧ CvAt K C H x s st tl ∧ q ∈ namesOf s st tl ∧
  (match tailOf tl q with
    | none => Q .non H
    | some t => Q (.str t) H)
theorem kp_tail (TM : TxM K mg) : Kme P w K mg base (gC mg) 1 "tail" ["self", "state"] ["state"] (spTail K (gC mg)) := by
  have TC := TM.C
  have T := TC.T
  obtain ⟨f, fd, M, F, b0, bk⟩ := TM.tail
  refine ⟨f, fd, M, b0, bk, F.okM sc_tail (fun vs H Q E h => ?_) (fun f cdv A outer s H vs Q E hA hr h => ?_)⟩
  · obtain ⟨x, q, s, st, tl, rfl, _⟩ := h
    rfl
  · obtain ⟨x, q, s, st, tl, rfl, cv, hq, k⟩ := h
    refine ⟨_, (pss_cons (ps_if (pt_cmpR (op_notInTx (hu2_of hr)) (pv 1) (pe_fld (pv 0) rfl) rfl)
 (pss_one (ps_never)) pss_nil)
 (pss_one (ps_ret (pe_ifExp (pt_cmp (pc_din (hu_of hr) (pv 1) (pe_fld (pv 0) rfl))) (pe_dget (hu_of hr) (pe_fld (pv 0) rfl) (pv 1) (fun _ _ => rfl)) (pe_non))))), ?_⟩
    obtain ⟨dx, ss, ls, d, t, ys, zs, c1, c2, c3, c4, c5, c6, c7, c8, c9, c10⟩ := id cv
    have hy : q ∈ ys := c3.mem_iff.mpr hq
    refine ⟨_, rfl, _, rfl, x, _, dx, _, _, rfl, c1, TC.cls, TC.nA _ (by decide), rfl, ss, ys, rfl, SqT.of c2, .inr ⟨q, rfl, _, rfl, ?_⟩⟩
    rw [decide_eq_true hy]
    refine iteF ?_
    refine ⟨_, rfl, _, rfl, x, _, dx, _, _, rfl, c1, TC.cls, TC.nA _ (by decide), rfl, t, _, rfl, .inl ⟨_, .inr q, .inl c9, rfl, rfl⟩, _, rfl, ?_⟩
    rw [valV_tl, Option.isSome_map]
    cases hu : tailOf tl q with
    | none =>
      rw [hu] at k
      exact iteF k
    | some u =>
      rw [hu] at k
      refine iteT ⟨_, rfl, x, _, dx, _, _, rfl, c1, TC.cls, TC.nA _ (by decide), rfl, _, rfl, t, .str u, rfl, .inl ⟨_, .inr q, .inl c9, rfl, ?_⟩, k⟩
      rw [valV_tl, hu]
      rfl
def spGet (K : PySem.W.Frag) (C : Addr) : Sp := fun vs H Q _ => ∃ (x kt : Addr) (q l s : Str) (st : List StE) (tl : List (Str × Str)), vs = [.ref x, .ref kt] ∧ CvAt K C H x s st tl ∧ H kt = some (.tup [.str q, .str l]) ∧ q ∈ namesOf s st tl ∧ isLet l = true ∧
  (match stepOf st q l with
    | none => ∀ H', Same H H' → Q .non H'
    | some (a, to) => ∀ qa H', Same H H' → SqT K H' qa [.str a, .str to] → Q (.ref qa) H')
theorem kp_get (TM : TxM K mg) : KgeX P w K mg base (gC mg) 3 ["self", "at"] (spGet K (gC mg)) := by
  have TC := TM.C
  have T := TC.T
  obtain ⟨f, fd, M, F, b0⟩ := TM.getm
  have hA : True := trivial
  refine ⟨f, fd, M, b0, F.ok sc_getm (fun vs H Q E h => ?_) (fun cdv A outer s H vs Q E hr h => ?_)⟩
  · obtain ⟨x, kt, q, l, s, st, tl, rfl, _⟩ := h
    rfl
  · obtain ⟨x, kt, q, l, s, st, tl, rfl, cv, hkt, hq, hl, k⟩ := h
    refine ⟨_, (pss_cons (ps_if (pt_not (pt_val (pe_kf (kp_pairX T) hA hr (by rfl) (pa_cons (pv 1) pa_nil))))
 (pss_one (ps_never)) pss_nil)
 (pss_cons (ps_asg (pv 1) (pg_tup rfl (pgs_cons (pg_name (i := 2) sc_getm.nd rfl (Or.inl rfl)) (pgs_cons (pg_name (i := 3) sc_getm.nd rfl (Or.inl rfl)) pgs_nil))))
 (pss_cons (ps_if (pt_cmpR (op_notInTx (hu2_of hr)) (pv 2) (pe_fld (pv 0) rfl) rfl)
 (pss_one (ps_never)) pss_nil)
 (pss_cons (ps_if (pt_not (pt_val (pe_kf (kp_letter T) hA hr (by rfl) (pa_cons (pv 3) pa_nil))))
 (pss_one (ps_never)) pss_nil)
 (pss_one (ps_ret (pe_ifExp (pt_cmp (pc_din (hu_of hr) (pv 1) (pe_fld (pv 0) rfl))) (pe_dget (hu_of hr) (pe_fld (pv 0) rfl) (pv 1) (fun _ _ => rfl)) (pe_non)))))))), ?_⟩
    obtain ⟨dx, ss, ls, d, t, ys, zs, c1, c2, c3, c4, c5, c6, c7, ⟨kvs, c8, hst, nd⟩, c9, c10⟩ := id cv
    have hy : q ∈ ys := c3.mem_iff.mpr hq
    refine ⟨_, rfl, .ref kt, rfl, .inl ⟨kt, _, rfl, SqT.of hkt, _, rfl, iteF ?_⟩⟩
    refine ⟨_, rfl, kt, _, rfl, SqT.of hkt, rfl, _, _, rfl, _, _, rfl, rfl, ?_⟩
    refine ⟨_, rfl, _, rfl, x, _, dx, _, _, rfl, c1, TC.cls, TC.nA _ (by decide), rfl, ss, ys, rfl, SqT.of c2, .inr ⟨q, rfl, _, rfl, ?_⟩⟩
    rw [decide_eq_true hy]
    refine iteF ⟨_, rfl, .str l, rfl, .inl ⟨l, rfl, Nat.le_trans (okL_le hl) (by decide), fun H1 s1 => ?_⟩⟩
    rw [show okL 1 1 l = true from hl]
    refine ⟨_, rfl, iteF ?_⟩
    refine ⟨_, rfl, _, rfl, x, _, dx, _, _, rfl, s1 _ _ c1, TC.cls, TC.nA _ (by decide), rfl, d, _, rfl, .inr ⟨kvs, [.inr q, .inr l], kt, .inl (s1 _ _ c8), rfl, s1 _ _ hkt, rfl⟩, _, rfl, ?_⟩
    rcases (hst.same s1).get nd q l with ⟨e1, e2⟩ | ⟨a, to, qa, e1, e2, e3⟩
    · rw [e1] at k
      rw [e2]
      exact iteF (k _ s1)
    · rw [e1] at k
      rw [e2]
      refine iteT ⟨_, rfl, x, _, dx, _, _, rfl, s1 _ _ c1, TC.cls, TC.nA _ (by decide), rfl, _, rfl, d, .ref qa, rfl, .inr ⟨kvs, [.inr q, .inr l], kt, .inl (s1 _ _ c8), rfl, s1 _ _ hkt, e2.symm⟩, k qa _ s1 e3⟩
/-- tail refuses -/
def spTlX (K : PySem.W.Frag) (mg : Str → Option Value) : Sp := fun vs H _ E => ∃ (x : Addr) (v1 : V) (s : Str) (st : List StE) (tl : List (Str × Str)), vs = [.ref x, v1] ∧ CvAt K (gC mg) H x s st tl ∧
  NoSt H s st tl v1 ∧ Told mg H E "NoState" [("value", v1)]
theorem kp_tlX (TM : TxM K mg) (RZ : ErrR P w K mg base) : KmxX P w K mg base (gC mg) 3 "tail" ["self", "state"] (spTlX K mg) := by
  have TC := TM.C
  have T := TC.T
  have hA : True := trivial
  obtain ⟨f, fd, M, F, b0, _⟩ := TM.tail
  refine ⟨f, fd, M, b0, F.ok sc_tail (fun vs H Q E h => ?_) (fun cdv A outer s H vs Q E hr h => ?_)⟩
  · obtain ⟨x, v1, s0, st, tl, rfl, _⟩ := h
    rfl
  · obtain ⟨x, v1, s0, st, tl, rfl, cv, ns, k⟩ := h
    refine ⟨_, (pss_cons (ps_if (pt_cmpR (op_notInTx (hu2_of hr)) (pv 1) (pe_fld (pv 0) rfl) rfl)
 (pss_one (ps_rz rfl (takes_of rfl rfl rfl rfl) RZ.state hr (by rfl) (pa_cons (pv 1) pa_nil))) pss_nil)
 pss_no), ?_⟩
    obtain ⟨dx, ss, ls, d, t, ys, zs, c1, c2, c3, c4, c5, c6, c7, c8, c9, c10⟩ := id cv
    refine ⟨_, rfl, _, rfl, x, _, dx, _, _, rfl, c1, TC.cls, TC.nA _ (by decide), rfl, ss, ys, rfl, SqT.of c2, ?_⟩
    rcases ns with nt | ⟨z, rfl, hz⟩
    · exact .inl ⟨nt, _, rfl, iteT ⟨_, rfl, rfl, (by show 1 ≤ 900; decide), fun d H' hd sm e => k d H' hd sm e⟩⟩
    · refine .inr ⟨z, rfl, _, rfl, ?_⟩
      rw [decide_eq_false (show z ∉ ys from fun h => hz (c3.mem_iff.mp h))]
      exact iteT ⟨_, rfl, rfl, (by show 1 ≤ 900; decide), fun d H' hd sm e => k d H' hd sm e⟩
/-- no key of a converter -/
def NoKey (K : PySem.W.Frag) (H : Hp) (v : V) : Prop := (∃ (a : Addr) (xs : List V), v = .ref a ∧ SqT K H a xs ∧ xs.length ≠ 2) ∨ NoTup K H v
/-- o[..] refuses -/
def spGetX (K : PySem.W.Frag) (mg : Str → Option Value) : Sp := fun vs H _ E => ∃ (x : Addr) (v : V) (s : Str) (st : List StE) (tl : List (Str × Str)), vs = [.ref x, v] ∧ CvAt K (gC mg) H x s st tl ∧
  ((NoKey K H v ∧ Told mg H E "BadConverter" [("part", .str "key")]) ∨ ∃ (kt : Addr) (v1 v2 : V), v = .ref kt ∧ SqT K H kt [v1, v2] ∧
    ((NoSt H s st tl v1 ∧ Told mg H E "NoState" [("value", v1)]) ∨ (∃ q, v1 = .str q ∧ q ∈ namesOf s st tl ∧ BadV K 1 1 H v2 ∧ Told mg H E "BadLetter" [("value", v2)])))
theorem kp_getX (TM : TxM K mg) (RZ : ErrR P w K mg base) : KgeX P w K mg base (gC mg) 3 ["self", "at"] (spGetX K mg) := by
  have TC := TM.C
  have T := TC.T
  obtain ⟨f, fd, M, F, b0⟩ := TM.getm
  have hA : True := trivial
  refine ⟨f, fd, M, b0, F.ok sc_getm (fun vs H Q E h => ?_) (fun cdv A outer s H vs Q E hr h => ?_)⟩
  · obtain ⟨x, v, s, st, tl, rfl, _⟩ := h
    rfl
  · obtain ⟨x, v, s0, st, tl, rfl, cv, h⟩ := h
    refine ⟨_, (pss_cons (ps_if (pt_not (pt_val (pe_kf (kp_pairX T) hA hr (by rfl) (pa_cons (pv 1) pa_nil))))
 (pss_one (ps_rz rfl (takes_of rfl rfl rfl rfl) RZ.conv hr (by rfl) (pa_cons (pe_str) pa_nil))) pss_nil)
 (pss_cons (ps_asg (pv 1) (pg_tup rfl (pgs_cons (pg_name (i := 2) sc_getm.nd rfl (Or.inl rfl)) (pgs_cons (pg_name (i := 3) sc_getm.nd rfl (Or.inl rfl)) pgs_nil))))
 (pss_cons (ps_if (pt_cmpR (op_notInTx (hu2_of hr)) (pv 2) (pe_fld (pv 0) rfl) rfl)
 (pss_one (ps_rz rfl (takes_of rfl rfl rfl rfl) RZ.state hr (by rfl) (pa_cons (pv 2) pa_nil))) pss_nil)
 (pss_cons (ps_if (pt_not (pt_val (pe_kf (kp_letter T) hA hr (by rfl) (pa_cons (pv 3) pa_nil))))
 (pss_one (ps_rz rfl (takes_of rfl rfl rfl rfl) RZ.letter hr (by rfl) (pa_cons (pv 3) pa_nil))) pss_nil)
 pss_no)))), ?_⟩
    obtain ⟨dx, ss, ls, d, t, ys, zs, c1, c2, c3, c4, c5, c6, c7, c8, c9, c10⟩ := id cv
    rcases h with ⟨nk, k⟩ | ⟨kt, v1, v2, rfl, hkt, h⟩
    · refine ⟨_, rfl, v, rfl, ?_⟩
      rcases nk with ⟨a, xs, rfl, hs, ne⟩ | nt
      · refine .inl ⟨a, xs, rfl, hs, _, rfl, ?_⟩
        rw [decide_eq_false ne]
        exact iteT ⟨rfl, (by show 1 ≤ 900; decide), fun d H' hd sm e => k d H' hd sm e⟩
      · exact .inr ⟨nt, _, rfl, iteT ⟨rfl, (by show 1 ≤ 900; decide), fun d H' hd sm e => k d H' hd sm e⟩⟩
    · refine ⟨_, rfl, .ref kt, rfl, .inl ⟨kt, _, rfl, hkt, _, rfl, iteF ?_⟩⟩
      refine ⟨_, rfl, kt, _, rfl, hkt, rfl, _, _, rfl, _, _, rfl, rfl, ?_⟩
      refine ⟨_, rfl, _, rfl, x, _, dx, _, _, rfl, c1, TC.cls, TC.nA _ (by decide), rfl, ss, ys, rfl, SqT.of c2, ?_⟩
      rcases h with ⟨ns, k⟩ | ⟨q, rfl, hq, b, k⟩
      · rcases ns with nt | ⟨z, rfl, hz⟩
        · exact .inl ⟨nt, _, rfl, iteT ⟨_, rfl, rfl, (by show 1 ≤ 900; decide), fun d H' hd sm e => k d H' hd sm e⟩⟩
        · refine .inr ⟨z, rfl, _, rfl, ?_⟩
          rw [decide_eq_false (show z ∉ ys from fun h => hz (c3.mem_iff.mp h))]
          exact iteT ⟨_, rfl, rfl, (by show 1 ≤ 900; decide), fun d H' hd sm e => k d H' hd sm e⟩
      · refine .inr ⟨q, rfl, _, rfl, ?_⟩
        rw [decide_eq_true (show q ∈ ys from c3.mem_iff.mpr hq)]
        refine iteF ?_
        exact ⟨_, rfl, v2, rfl, spL.bad b fun H1 s1 => ⟨_, rfl, iteT ⟨_, rfl, rfl, (by show 1 ≤ 900; decide), fun d H' hd sm e => k d H' (s1.free hd) (s1.trans sm) e⟩⟩⟩
end
end KC
namespace KC
open PySem L2 PyProof.Rows
theorem paired_snoc {α β : Type} {R : α → β → Prop} : ∀ {as : List α} {bs : List β} {a : α} {b : β}, Paired R as bs → R a b → Paired R (as ++ [a]) (bs ++ [b])
  | _, _, _, _, .nil, h => .cons h .nil
  | _, _, _, _, .cons r t, h => .cons r (paired_snoc t h)
/-- a list of pairs: a name, True -/
def NmAt (H : Hp) (R : Addr) (zs : List Str) : Prop := ∃ ps : List Addr, H R = some (.lst (ps.map V.ref)) ∧ Paired (fun p z => H p = some (.tup [.str z, .bl true])) ps zs
theorem paired_same {H H' : Hp} : ∀ {ps : List Addr} {zs : List Str}, Paired (fun p z => H p = some (.tup [.str z, .bl true])) ps zs → Same H H' → Paired (fun p z => H' p = some (.tup [.str z, .bl true])) ps zs
  | _, _, .nil, _ => .nil
  | _, _, .cons a b, s => .cons (s _ _ a) (paired_same b s)
theorem paired_upd {H : Hp} {R : Addr} {u u' : HO} (hR : H R = some u) (nu : ∀ xs, u ≠ .tup xs) : ∀ {ps : List Addr} {zs : List Str}, Paired (fun p z => H p = some (.tup [.str z, .bl true])) ps zs → Paired (fun p z => upd H R u' p = some (.tup [.str z, .bl true])) ps zs
  | _, _, .nil => .nil
  | _, _, .cons a b => .cons (upd_oth (fun z => by rw [z, hR] at a; exact nu _ (Option.some.inj a)) a) (paired_upd hR nu b)
theorem NmAt.same {H H' : Hp} {R : Addr} {zs : List Str} (h : NmAt H R zs) (s : Same H H') : NmAt H' R zs := by
  obtain ⟨ps, a, b⟩ := h
  exact ⟨ps, s _ _ a, paired_same b s⟩
theorem NmAt.dict {K : PySem.W.Frag} {H : Hp} {R : Addr} {zs : List Str} (h : NmAt H R zs) : ∃ ps : List Addr, SqL K H R (ps.map V.ref) ∧ Paired (fun p kv => SqT K H p [kV kv.1, kv.2]) ps (zs.map nmKv) := by
  obtain ⟨ps, a, b⟩ := h
  refine ⟨ps, SqL.of a, ?_⟩
  clear a
  induction b with
  | nil => exact .nil
  | cons r _ ih => exact .cons (SqT.of r) ih
/-- one more -/
theorem NmAt.app {G H1 : Hp} {R q : Addr} {zs : List Str} {z : Str} {ps : List Addr} (hR : H1 R = none) (sm : Same H1 G) (gR : G R = some (.lst (ps.map V.ref))) (pr : Paired (fun p z => G p = some (.tup [.str z, .bl true])) ps zs) (hq : G q = some (.tup [.str z, .bl true])) :
    Same H1 (upd G R (.lst (ps.map V.ref ++ [.ref q]))) ∧ NmAt (upd G R (.lst (ps.map V.ref ++ [.ref q]))) R (zs ++ [z]) := by
  refine ⟨fun b o eb => upd_oth (fun z => by rw [z, hR] at eb; cases eb) (sm _ _ eb), ps ++ [q], by rw [upd_same, List.map_append]; rfl, ?_⟩
  exact paired_snoc (paired_upd gR (fun _ z => by cases z) pr) (upd_oth (fun z => by rw [z, gR] at hq; cases hq) hq)
theorem merge_nm : ∀ (zs acc : List Str), mergeK (acc.map nmKv) (zs.map nmKv) = (zs.foldl addN acc).map nmKv
  | [], acc => rfl
  | z :: zs, acc => by
    show mergeK (putK (acc.map nmKv) (.inr z) (.bl true)) (zs.map nmKv) = _
    rw [put_nm, merge_nm zs]
    try rfl
theorem seq_i {a b : TS} {D : Ends} {σ : L2.St} {H : Hp} (h : a { D with nx := b D } σ H) : tSeq a b D σ H := h
theorem asg_i {te : TE} {g : TG} {D : Ends} {σ : L2.St} {H : Hp} (h : te σ H fun x H1 => g x σ H1 D.nx) : tAsg te g D σ H := h
theorem for_i {wi : TI} {g : TG} {tb : TS} {D : Ends} {σ : L2.St} {H : Hp} (h : wi σ H fun J H1 => ∃ W : Nat → Nat → L2.St → Hp → Prop, (∃ m, W 0 m σ H1) ∧ ∀ i m σ H, W i m σ H →
  (J.stop i H ∧ D.nx σ H) ∨ (J.go i H ∧ ∃ N : L2.St → Hp → Prop, (∀ σ' H', N σ' H' → ∃ m', m' < m ∧ W (i + 1) m' σ' H') ∧ ∀ x H', J.yld i H x H' → g x σ H' fun σ2 H2 => tb { D with nx := N, ct := N, bk := D.nx } σ2 H2)) : tFor wi g tb D σ H := h
theorem cb1_i {r : List V → Hp → VK → Prop} {te : TE} {σ : L2.St} {H : Hp} {Q : VK} (h : te σ H fun x H1 => r [x] H1 Q) : tCB r (tCons te tNil) σ H Q := h
def names2 (s : Str) (st : List StE) (tl : List (Str × Str)) : List Str := st.foldl addS ((s :: tl.map (·.1)).foldl addN [])
theorem names2_perm (s : Str) (st : List StE) (tl : List (Str × Str)) : (names2 s st tl).Perm (namesOf s st tl) := by
  have hs := names_start s st tl
  have a1 := foldN_sub (ns := namesOf s st tl) (s :: tl.map (·.1)) [] (by simp) (fun y h => by cases h) (fun y hy => by
    rcases List.mem_cons.mp hy with rfl | hy
    · exact hs
    · obtain ⟨e, he, rfl⟩ := List.mem_map.mp hy
      exact names_tl he)
  have a2 := foldS_sub (ns := namesOf s st tl) st _ a1.1 a1.2 (fun e he => names_from he)
  have b1 := foldS_sub (ns := names2 s st tl) st [s] (by simp) (fun y hy => by
    rw [List.mem_singleton.mp hy]
    exact foldS_mem st _ (mem_foldN _ _ List.mem_cons_self)) (fun e he => by
    refine ⟨?_, foldS_to st _ he⟩
    have go : ∀ (st : List StE) (l : List Str), e ∈ st → e.1.1 ∈ st.foldl addS l := by
      intro st
      induction st with
      | nil => intro l h; cases h
      | cons x st ih =>
        intro l h
        rw [List.foldl_cons]
        rcases List.mem_cons.mp h with rfl | h
        · exact foldS_mem st _ (addN_mem2 (addN_mem1 _ _))
        · exact ih _ h
    exact go st _ he)
  have b2 := foldN_sub (ns := names2 s st tl) (tl.map (·.1)) _ b1.1 b1.2 (fun y hy => foldS_mem st _ (mem_foldN _ _ (List.mem_cons_of_mem _ hy)))
  exact (List.perm_ext_iff_of_nodup a2.1 b2.1).mpr fun y => ⟨a2.2 y, b2.2 y⟩
section
variable {P : Program} {w : World} {K : PySem.W.Frag} {mg : Str → Option Value} {base : Heap}
def spLst (K : PySem.W.Frag) : Sp := fun vs H Q _ => ∃ (q : Addr) (s : Str) (st : List StE) (tl : List (Str × Str)), vs = [.ref q] ∧ PtAt K H q s st tl ∧ st.length ≤ 1000 ∧ tl.length ≤ 1000 ∧ (namesOf s st tl).length < 64 ∧
  ∀ ys p H', ys.Perm (namesOf s st tl) → sortedS ys = true → Same H H' → H' p = some (.lst (ys.map V.str)) → Q (.ref p) H'
theorem kp_lst (T : Txt K mg) : Kf P w K mg base 1 "_law_states" ["_law_parts_here"] (spLst K) := by
  refine T.d_lstates.okF sc_lstates (fun vs H Q E h => ?_) (fun f cdv A outer s H vs Q E hA hr h => ?_)
  · obtain ⟨q, s, st, tl, rfl, _⟩ := h
    rfl
  · obtain ⟨q, s, st, tl, rfl, ⟨d, t, hq, hst, ht, ndt⟩, len, tlen, n64, k⟩ := h
    refine ⟨_, (pss_cons (ps_set (i := 1) sc_lstates.nd rfl (Or.inl rfl) (pe_callTy (call_dictP rfl) (by rfl) (T.nb _ (by decide)) (by decide +kernel) (pa_cons (pe_op op_cat (pe_lst (pa_cons (pe_tup (pa_cons (pe_ix (ix_tup : IxR _ (rIxT K)) (pv 0) (pe_int) (fun _ _ => rfl)) (pa_cons (pe_bl) pa_nil))) pa_nil)) (pe_lock (pe_lc (own := [("_law_state", 2)]) (g := gName 2) (tt := tYes) rfl sc_lstates.nd (pi_keys (pe_ix (ix_tup : IxR _ (rIxT K)) (pv 0) (pe_int) (fun _ _ => rfl))) (blkOk_by (N := n_lstates) (sc := defScope s_lstates) (by decide +kernel)) (fun _ _ _ _ _ => pg_name (i := 2) sc_lstates.nd rfl (Or.inl rfl)) (fun _ _ _ _ _ => pts_nil) (fun _ _ _ _ _ => (pe_tup (pa_cons (pv 2) (pa_cons (pe_bl) pa_nil))))))) pa_nil)))
 (pss_cons (ps_lock (ps_for PassesOwn.never rfl (pi_keys (pe_ix (ix_tup : IxR _ (rIxT K)) (pv 0) (pe_int) (fun _ _ => rfl))) (pg_tup rfl (pgs_cons (pg_name (i := 2) sc_lstates.nd rfl (Or.inl rfl)) (pgs_cons (pg_name (i := 3) sc_lstates.nd rfl (Or.inl rfl)) pgs_nil)))
 (pss_cons (ps_asg (pe_bl) (pg_sub (pv 1) (pv 2) (set_dict (hu_of hr))))
 (pss_one (ps_asg (pe_bl) (pg_sub (pv 1) (pe_ix (ix_tup : IxR _ (rIxT K)) (pe_dget (hu_of hr) (pe_ix (ix_tup : IxR _ (rIxT K)) (pv 0) (pe_int) (fun _ _ => rfl)) (pe_tup (pa_cons (pv 2) (pa_cons (pv 3) pa_nil))) (fun _ _ => rfl)) (pe_int) (fun _ _ => rfl)) (set_dict (hu_of hr))))))))
 (pss_one (ps_ret (pe_callB cr_sortedS (by rfl) (T.nb _ (by decide)) (by decide +kernel) (pa_cons (pe_lock (pe_lc (own := [("_law_state", 2)]) (g := gName 2) (tt := tYes) rfl sc_lstates.nd (pi_keys (pv 1)) (blkOk_by (N := n_lstates) (sc := defScope s_lstates) (by decide +kernel)) (fun _ _ _ _ _ => pg_name (i := 2) sc_lstates.nd rfl (Or.inl rfl)) (fun _ _ _ _ _ => pts_nil) (fun _ _ _ _ _ => (pe_callTy SkE.call_str_str (by rfl) (T.nb _ (by decide)) (by decide +kernel) (pa_cons (pv 2) pa_nil))))) pa_nil)))))), ?_⟩
    refine seq_i (asg_i (cb1_i ?_))
    refine ⟨_, rfl, q, _, 0, _, rfl, rfl, SqT.of hq, rfl, (by show 2 ≤ sizeLine; decide), fun p1 hp1 => ⟨(by show 1 ≤ sizeLine; decide), fun L1 hL1 => ?_⟩⟩
    have s1 : Same H (upd (upd H p1 (.tup [.str s, .bl true])) L1 (.lst [.ref p1])) := (Same.new hp1).trans (Same.new hL1)
    have g1 : upd (upd H p1 (.tup [.str s, .bl true])) L1 (.lst [.ref p1]) p1 = some (.tup [.str s, .bl true]) := upd_new hL1 upd_same
    have gL1 : upd (upd H p1 (.tup [.str s, .bl true])) L1 (.lst [.ref p1]) L1 = some (.lst [.ref p1]) := upd_same
    generalize upd (upd H p1 (.tup [.str s, .bl true])) L1 (.lst [.ref p1]) = H1 at s1 g1 gL1
    have hq1 := s1 _ _ hq
    have ht1 := s1 _ _ ht
    refine ⟨t, _, ht1, trivial, fun ot => ?_⟩
    have hlt : upd H1 t (.frz ot (.dK (tl.map tlKv))) t = some (.frz ot (.dK (tl.map tlKv))) := upd_same
    have nqt : q ≠ t := fun z => by rw [z, ht1] at hq1; cases hq1
    have nLt : L1 ≠ t := fun z => by rw [z, ht1] at gL1; cases gL1
    have npt : p1 ≠ t := fun z => by rw [z, ht1] at g1; cases g1
    have hqL : upd H1 t (.frz ot (.dK (tl.map tlKv))) q = _ := upd_oth nqt hq1
    generalize eGL : upd H1 t (.frz ot (.dK (tl.map tlKv))) = GL at hlt hqL
    refine ⟨_, rfl, q, _, 2, _, rfl, rfl, SqT.of hqL, rfl, t, ot, rfl, .inl ⟨_, hlt, fun D hD => ?_⟩⟩
    refine lc_it (walk_keys (d := t) (o := ot) (kvs := tl.map tlKv)) (fun i H' => Same GL H' ∧ NmAt H' D ((tl.take i).map (·.1))) ⟨Same.new hD, [], upd_same, .nil⟩ (fun i H' _ p => p.1 _ _ hlt) ?_ ?_
    · rintro i x G1 G2 hi ⟨sm, ps, gD, pr⟩ ⟨rfl, k0, v0, e0, rfl⟩
      rw [List.length_map] at hi
      obtain ⟨e, he⟩ : ∃ e, tl[i]? = some e := ⟨_, List.getElem?_eq_getElem hi⟩
      rw [List.getElem?_map, he] at e0
      obtain ⟨rfl, rfl⟩ := Prod.mk.inj (Option.some.inj e0)
      refine ⟨rfl, yes_run ?_⟩
      refine ⟨_, rfl, (by show 2 ≤ sizeLine; decide), fun qn hqn => ?_⟩
      have s2 := Same.new (u := .tup [.str e.1, .bl true]) hqn
      refine ⟨_, s2 _ _ gD, ?_, ?_⟩
      · rw [List.length_map, pr.length, List.length_map, List.length_take]
        exact Nat.lt_of_le_of_lt (show _ ≤ 1000 by omega) (by decide)
      have := NmAt.app (z := e.1) hD (sm.trans s2) (s2 _ _ gD) (paired_same pr s2) upd_same
      rw [List.take_add_one, he, List.map_append]
      exact this
    rintro G1 ⟨sm, ps, gD, pr⟩
    rw [List.length_map, List.take_length] at pr
    refine ⟨sm _ _ hlt, ?_⟩
    have su : Same H1 (upd G1 t (.dK (tl.map tlKv))) := unlock_same (u' := .frz ot (.dK (tl.map tlKv))) ht1 (by rw [eGL]; exact sm)
    have nDt : D ≠ t := fun z => by rw [z, hlt] at hD; cases hD
    have gt := sm _ _ hlt
    have pr2 : Paired (fun p z => upd G1 t (.dK (tl.map tlKv)) p = some (.tup [.str z, .bl true])) ps (tl.map (·.1)) := paired_upd gt (fun _ z => by cases z) pr
    have gD2 : upd G1 t (.dK (tl.map tlKv)) D = some (.lst (ps.map V.ref)) := upd_oth nDt gD
    clear pr gD
    generalize upd G1 t (.dK (tl.map tlKv)) = H2 at su pr2 gD2
    have lps : ps.length = tl.length := by rw [pr2.length, List.length_map]
    refine ⟨L1, D, _, _, rfl, rfl, su _ _ gL1, gD2, ?_, fun N hN => ?_⟩
    · rw [List.length_map, lps]
      exact Nat.le_trans (show 1 + tl.length ≤ 2000 by omega) (by decide)
    have s3 : Same H2 (upd H2 N (.lst ([.ref p1] ++ ps.map V.ref))) := Same.new hN
    have nm : NmAt (upd H2 N (.lst ([.ref p1] ++ ps.map V.ref))) N (s :: tl.map (·.1)) := ⟨p1 :: ps, upd_same, .cons (s3 _ _ (su _ _ g1)) (paired_same pr2 s3)⟩
    have s03 := (s1.trans su).trans s3
    generalize upd H2 N (.lst ([.ref p1] ++ ps.map V.ref)) = H3 at s3 nm s03
    obtain ⟨ps', a1, a2⟩ := nm.dict (K := K)
    refine ⟨N, ps', _, rfl, a1, a2, fun F hF => ?_⟩
    rw [show mergeK [] ((s :: tl.map (·.1)).map nmKv) = ((s :: tl.map (·.1)).foldl addN []).map nmKv from merge_nm _ []]
    obtain ⟨fs, hfs⟩ : ∃ fs, fs = (s :: tl.map (·.1)).foldl addN [] := ⟨_, rfl⟩
    have lfs : fs.length ≤ 1001 := by
      rw [hfs]
      have := foldN_len (s :: tl.map (·.1)) []
      simp only [List.length_nil, List.length_cons, List.length_map] at this
      omega
    rw [← hfs]
    have s4 : Same H3 (upd H3 F (.dK (fs.map nmKv))) := Same.new hF
    have gF : upd H3 F (.dK (fs.map nmKv)) F = some (.dK (fs.map nmKv)) := upd_same
    have HF : H F = none := s03.free hF
    have s04 := s03.trans s4
    generalize upd H3 F (.dK (fs.map nmKv)) = H4 at gF s04
    clear a1 a2 nm s3 s03 su s1 pr2 gD2 gL1 g1 hq1 ht1
    have hq4 := s04 _ _ hq
    obtain ⟨kvs, hd4, hst4, nd⟩ := id (hst.same s04)
    -- the steps
    have nFd : F ≠ d := fun z => by rw [z, hd4] at gF; cases gF
    refine ⟨d, _, hd4, trivial, fun od => ?_⟩
    have hl : upd H4 d (.frz od (.dT kvs)) d = some (.frz od (.dT kvs)) := upd_same
    have hstL := hst4.lock (o := od) hd4
    have nqd : q ≠ d := fun z => by rw [z, hd4] at hq4; cases hq4
    have hqd : upd H4 d (.frz od (.dT kvs)) q = _ := upd_oth nqd hq4
    have gFd : upd H4 d (.frz od (.dT kvs)) F = some (.dK (fs.map nmKv)) := upd_oth nFd gF
    generalize eHL : upd H4 d (.frz od (.dT kvs)) = HL at hl hstL hqd gFd
    refine ⟨_, rfl, q, _, 1, _, rfl, rfl, SqT.of hqd, rfl, d, od, rfl, .inr ⟨kvs, hl, ?_⟩⟩
    have nqF : q ≠ F := fun z => by rw [z, HF] at hq; cases hq
    refine for_it (walk_keysT (d := d) (o := od) (kvs := kvs)) (fun i σ H' => (∃ a b, σ = [some (.ref q), some (.ref F), a, b]) ∧ But F HL H' ∧ H' F = some (.dK (((st.take i).foldl addS fs).map nmKv)))
      ⟨⟨_, _, rfl⟩, fun _ _ _ h => h, gFd⟩ (fun i σ H' _ p => p.2.1 d (Ne.symm nFd) _ hl) ?_ ?_
    · rintro i x σ G1 G2 hi ⟨⟨v2, v3, rfl⟩, bu, hN⟩ ⟨rfl, k0, v0, kq, e0, rfl, hkq⟩
      have hi' : i < st.length := by rw [hst4.len] at hi; exact hi
      obtain ⟨e, he⟩ : ∃ e, st[i]? = some e := ⟨_, List.getElem?_eq_getElem hi'⟩
      obtain ⟨qv, h1, h2⟩ := hstL.2 i e he
      rw [h1] at e0
      obtain ⟨rfl, rfl⟩ := Prod.mk.inj (Option.some.inj e0)
      have hkq' : G2 kq = some (.tup [.str e.1.1, .str e.1.2]) := hkq
      refine ⟨kq, _, rfl, SqT.of hkq', rfl, _, _, rfl, _, _, rfl, rfl, ?_⟩
      have bl : ((st.take i).foldl addS fs).length ≤ 4000 := by
        have := foldS_len (st.take i) fs
        rw [List.length_take] at this
        omega
      have bl2 : ∀ x, (addN ((st.take i).foldl addS fs) x).length ≤ 4001 := fun x => Nat.le_trans (addN_len _ _) (by omega)
      refine ⟨_, rfl, _, rfl, F, _, rfl, .inl ⟨_, .inr e.1.1, hN, rfl, ?_, rfl⟩, ?_⟩
      · rw [List.length_map]
        exact Nat.lt_of_le_of_lt bl (by decide)
      rw [put_nm]
      have bu1 : But F HL (upd G2 F (.dK ((addN ((st.take i).foldl addS fs) e.1.1).map nmKv))) := fun b hb o eb => upd_oth hb (bu b hb o eb)
      have gF1 : upd G2 F (.dK ((addN ((st.take i).foldl addS fs) e.1.1).map nmKv)) F = _ := upd_same
      generalize upd G2 F (.dK ((addN ((st.take i).foldl addS fs) e.1.1).map nmKv)) = G3 at bu1 gF1
      refine ⟨_, rfl, _, rfl, q, _, 1, _, rfl, rfl, SqT.of (bu1 _ nqF _ hqd), rfl, _, rfl, _, rfl, (by show 2 ≤ sizeLine; decide), fun kt hkt => ?_⟩
      have s5 : Same G3 (upd G3 kt (.tup [.str e.1.1, .str e.1.2])) := Same.new hkt
      have gk : upd G3 kt (.tup [.str e.1.1, .str e.1.2]) kt = some (.tup [.str e.1.1, .str e.1.2]) := upd_same
      generalize upd G3 kt (.tup [.str e.1.1, .str e.1.2]) = G4 at s5 gk
      have h2' : SqT K G4 qv [.str e.2.1, .str e.2.2] := by
        rcases h2 with (h2 | ⟨o', h2⟩) | h2
        · exact .inl (.inl (s5 _ _ (bu1 _ (fun z => by rw [z, gFd] at h2; cases h2) _ h2)))
        · exact .inl (.inr ⟨o', s5 _ _ (bu1 _ (fun z => by rw [z, gFd] at h2; cases h2) _ h2)⟩)
        · exact .inr h2
      refine ⟨d, .ref qv, rfl, .inr ⟨kvs, stK e, kt, .inr ⟨od, s5 _ _ (bu1 d (Ne.symm nFd) _ hl)⟩, rfl, gk, (valV_at nd h1).symm⟩, ?_⟩
      refine ⟨qv, _, 1, _, rfl, rfl, h2', rfl, F, _, rfl, .inl ⟨_, .inr e.2.2, s5 _ _ gF1, rfl, ?_, rfl⟩, ?_⟩
      · rw [List.length_map]
        exact Nat.lt_of_le_of_lt (bl2 _) (by decide)
      rw [put_nm]
      refine ⟨⟨_, _, rfl⟩, fun b hb o eb => upd_oth hb (s5 _ _ (bu1 b hb o eb)), ?_⟩
      rw [upd_same, take_fold he]
      rfl
    · rintro σ G1 ⟨⟨v2, v3, rfl⟩, bu, hN⟩
      rw [List.take_of_length_le (Nat.le_of_eq hst4.len.symm)] at hN
      refine ⟨bu d (Ne.symm nFd) _ hl, ?_⟩
      have hN2 : upd G1 d (.dT kvs) F = some (.dK ((names2 s st tl).map nmKv)) := by
        unfold names2
        rw [← hfs]
        exact upd_oth nFd hN
      have s06 : Same H (upd G1 d (.dT kvs)) := fun b o e => by
        have h4 := s04 _ _ e
        have bF : b ≠ F := fun z => by rw [z, HF] at e; cases e
        by_cases z : b = d
        · subst z
          rw [hd4] at h4
          cases h4
          exact upd_same
        · exact upd_oth z (bu b bF o (by rw [← eHL]; exact upd_oth z h4))
      generalize upd G1 d (.dT kvs) = G2 at hN2 s06
      have n2 : (names2 s st tl).length < 64 := by rw [(names2_perm s st tl).length_eq]; exact n64
      dsimp only [tRet, tCB, tCons]
      refine ⟨F, _, hN2, trivial, fun on => ?_⟩
      have hl3 : upd G2 F (.frz on (.dK ((names2 s st tl).map nmKv))) F = some (.frz on (.dK ((names2 s st tl).map nmKv))) := upd_same
      refine tlc_keys (d := F) (o := on) (kvs := (names2 s st tl).map nmKv) (r := fun _ x => some x) hl3 (by rw [List.length_map]; exact Nat.le_of_lt (Nat.lt_of_lt_of_le n2 (by decide))) (fun R h => ⟨_, rfl, h⟩) ?_ ?_
      · intro i x H' hx _ Ky Kn hy _
        rw [List.map_map, List.getElem?_map] at hx
        cases en : (names2 s st tl)[i]? with
        | none => rw [en] at hx; cases hx
        | some z =>
          rw [en] at hx
          obtain rfl : V.str z = x := Option.some.inj hx
          exact ⟨rfl, yes_run ⟨_, rfl, z, rfl, hy _ rfl⟩⟩
      · intro D2 hD2
        have ef : fm (fun _ x => some x) 0 (((names2 s st tl).map nmKv).map fun kv => kV kv.1) = (names2 s st tl).map V.str := by
          rw [L2.fm_map (fun x => x) _ (fun _ _ => rfl), List.map_id', List.map_map]
          rfl
        rw [ef]
        have nD : F ≠ D2 := fun z => by rw [← z, hl3] at hD2; cases hD2
        refine ⟨upd_oth nD hl3, ?_⟩
        have sF := unlock_same hN2 (Same.new (u := .lst ((names2 s st tl).map V.str)) hD2)
        have hDF : upd (upd (upd G2 F (.frz on (.dK ((names2 s st tl).map nmKv)))) D2 (.lst ((names2 s st tl).map V.str))) F (.dK ((names2 s st tl).map nmKv)) D2 = some (.lst ((names2 s st tl).map V.str)) := upd_oth (Ne.symm nD) upd_same
        generalize upd (upd (upd G2 F (.frz on (.dK ((names2 s st tl).map nmKv)))) D2 (.lst ((names2 s st tl).map V.str))) F (.dK ((names2 s st tl).map nmKv)) = FF at sF hDF
        refine ⟨D2, _, rfl, SqL.of hDF, n2, fun ys p hperm hsort hp => ?_⟩
        exact k ys p _ (hperm.trans (names2_perm s st tl)) hsort ((s06.trans sF).trans (Same.new hp)) upd_same
end
end KC
namespace KC
open PySem L2 PyProof.Rows
theorem sp_tail_len {K : PySem.W.Frag} {C : Addr} : ∀ vs H Q E, spTail K C vs H Q E → vs.length = (["state"] : List Str).length + 1 := by
  rintro vs H Q E ⟨x, q, s, st, tl, rfl, _⟩
  rfl
theorem mem_lets {st : List StE} {z : Str} : z ∈ lettersOf st ↔ z ∈ st.map fun e => e.1.2 := by
  unfold lettersOf
  have a := foldN_sub (ns := st.map fun e => e.1.2) (st.map fun e => e.1.2) [] (by simp) (fun y h => by cases h) (fun y hy => hy)
  exact ⟨fun h => a.2 z h, fun h => mem_foldN _ _ h⟩
theorem sorted_pw : ∀ (l : List Str) (p : Str), risingS p l = true → (p :: l).Pairwise fun a b : Str => a.cps.toList ≤ b.cps.toList
  | [], p, _ => by simp
  | x :: r, p, h => by
    have h2 : (!PySem.Spec.ltCps x.cps.toList p.cps.toList && risingS x r) = true := h
    rw [Bool.and_eq_true] at h2
    have ih := sorted_pw r x h2.2
    have le : p.cps.toList ≤ x.cps.toList := by
      have q := h2.1
      rw [ltCps_eq] at q
      exact List.not_lt.mp (by simpa using q)
    refine List.pairwise_cons.mpr ⟨fun y hy => ?_, ih⟩
    rcases List.mem_cons.mp hy with rfl | hy
    · exact le
    · exact List.le_trans le ((List.pairwise_cons.mp ih).1 y hy)
theorem sortedS_pw {l : List Str} (h : sortedS l = true) : l.Pairwise fun a b : Str => a.cps.toList ≤ b.cps.toList := by
  cases l with
  | nil => exact List.Pairwise.nil
  | cons x r => exact sorted_pw r x h
theorem str_of_cps {a b : Str} (e : a.cps.toList = b.cps.toList) : a = b := by
  cases a
  cases b
  exact congrArg Str.mk (Array.toList_inj.mp e)
theorem sorted_uniq {xs ys : List Str} (h1 : sortedS xs = true) (h2 : sortedS ys = true) (p : xs.Perm ys) : xs = ys :=
  List.Perm.eq_of_pairwise (fun a b _ _ h3 h4 => str_of_cps (List.le_antisymm h3 h4)) (sortedS_pw h1) (sortedS_pw h2) p
/-- which stand at or behind the i-th -/
theorem ge_at {ys : List Str} (hs : sortedS ys = true) (nd : ys.Nodup) {i j : Nat} {a b : Str} (hi : ys[i]? = some a) (hj : ys[j]? = some b) : (!decide (b.cps.toList < a.cps.toList)) = decide (i ≤ j) := by
  obtain ⟨i1, rfl⟩ := List.getElem?_eq_some_iff.mp hi
  obtain ⟨j1, rfl⟩ := List.getElem?_eq_some_iff.mp hj
  have pw := List.pairwise_iff_getElem.mp (sortedS_pw hs)
  rw [Bool.eq_iff_iff, Bool.not_eq_true', decide_eq_false_iff_not, decide_eq_true_eq]
  constructor
  · intro h
    refine Nat.le_of_not_lt fun lt => h ?_
    refine List.not_le.mp fun le => ?_
    have e := str_of_cps (List.le_antisymm le (pw j i j1 i1 lt))
    have := (List.getElem_inj nd).mp e
    omega
  · intro h
    rcases Nat.lt_or_eq_of_le h with h | rfl
    · exact List.not_lt.mpr (pw i j i1 j1 h)
    · exact List.lt_irrefl _
theorem names_okN {s : Str} {st : List StE} {tl : List (Str × Str)} (ok : OkParts s st tl) : ∀ y ∈ namesOf s st tl, isName y = true := by
  have mk : ∀ y, y ∈ namesOf s st tl → isName y = true → y ∈ (namesOf s st tl).filter isName := fun y h1 h2 => List.mem_filter.mpr ⟨h1, h2⟩
  have a := foldS_sub (ns := (namesOf s st tl).filter isName) st [s] (by simp) (fun y hy => by
    rw [List.mem_singleton.mp hy]
    exact mk _ (names_start s st tl) ok.os) (fun e he => ⟨mk _ (names_from he).1 (ok.ost e he).1, mk _ (names_from he).2 (ok.ost e he).2.2.2⟩)
  have b := foldN_sub (ns := (namesOf s st tl).filter isName) (tl.map (·.1)) _ a.1 a.2 (fun y hy => by
    obtain ⟨e, he, rfl⟩ := List.mem_map.mp hy
    exact mk _ (names_tl he) (ok.otl e he).1)
  exact fun y hy => (List.mem_filter.mp (b.2 y hy)).2
theorem shaped_strL {zs : List Str} (h : ∀ y ∈ zs, PyData.strOk y = true) : SeqAt.shaped (.list (zs.map PyData.str)) = true := by
  have h1 : ∀ l : List Str, (∀ y ∈ l, PyData.strOk y = true) → PyData.canLayAll0 (l.map PyData.str) = true := by
    intro l
    induction l with
    | nil => intro _; simp [PyData.canLayAll0]
    | cons a l ih => intro q; simp [PyData.canLayAll0, PyData.canLay0, ih (fun y m => q y (List.mem_cons_of_mem _ m)), q a List.mem_cons_self]
  have h2 : ∀ l : List Str, PyData.depthAll (l.map PyData.str) ≤ 1 := by
    intro l
    induction l with
    | nil => simp [PyData.depthAll]
    | cons a l ih =>
      simp [PyData.depthAll, PyData.depth]
      try omega
  have q := h2 zs
  simp [SeqAt.shaped, PyData.canLay0, PyData.depth, h1 zs h]
  omega
theorem sum_step {m i p : Nat} (hi : i < m) (hp : 2 * p + i * i = 2 * m * i + i) : 2 * (p + (m - i)) + (i + 1) * (i + 1) = 2 * m * (i + 1) + (i + 1) := by
  obtain ⟨d, rfl⟩ : ∃ d, m = i + d := ⟨m - i, by omega⟩
  rw [Nat.add_sub_cancel_left]
  have e1 : (i + 1) * (i + 1) = i * i + 2 * i + 1 := by
    rw [Nat.add_mul, Nat.mul_add]
    omega
  have e2 : 2 * (i + d) * (i + 1) = 2 * (i + d) * i + 2 * (i + d) := by rw [Nat.mul_add, Nat.mul_one]
  rw [e1, e2]
  omega
theorem sum_end {m p : Nat} (hp : 2 * p + m * m = 2 * m * m + m) : (2 : Int) * (p : Nat) = ((m : Nat) : Int) * (((m : Nat) : Int) + 1) := by
  have h : 2 * p = m * (m + 1) := by
    have e1 : 2 * m * m = m * m + m * m := by rw [Nat.mul_assoc]; omega
    rw [Nat.mul_add, Nat.mul_one]
    omega
  have := congrArg (fun n : Nat => (n : Int)) h
  simpa using this
theorem ne_same {H : Hp} {v : V} (h : scal v v = true) {R : VK} (k : R (.bl false) H) : rNe v v H R := ⟨h, by rw [decide_eq_true rfl]; exact k⟩
theorem nd_names (s : Str) (st : List StE) (tl : List (Str × Str)) : (namesOf s st tl).Nodup := by
  unfold namesOf
  have a := foldS_sub (ns := namesOf s st tl) st [s] (by simp) (fun y hy => by rw [List.mem_singleton.mp hy]; exact names_start s st tl) (fun e he => names_from he)
  exact (foldN_sub (ns := namesOf s st tl) (tl.map (·.1)) _ a.1 a.2 (fun y hy => by
    obtain ⟨e, he, rfl⟩ := List.mem_map.mp hy
    exact names_tl he)).1
/-- what a look for a step brings -/
def Near (K : PySem.W.Frag) (G : Hp) (v : V) : Option (Str × Str) → Prop
  | none => v = .non
  | some e => ∃ r, v = .ref r ∧ SqT K G r [.str e.1, .str e.2]
theorem Near.same {K : PySem.W.Frag} {G G' : Hp} {v : V} {o : Option (Str × Str)} (h : Near K G v o) (s : Same G G') : Near K G' v o := by
  cases o with
  | none => exact h
  | some e =>
    obtain ⟨r, h1, h2⟩ := h
    exact ⟨r, h1, h2.ext s⟩
def nearD : Option (Str × Str) → PyData
  | none => .none
  | some e => .tuple [.str e.1, .str e.2]
theorem near_dp {K : PySem.W.Frag} {G : Hp} {v : V} {o : Option (Str × Str)} (h : Near K G v o) : Dp K G v (nearD o) := by
  cases o with
  | none =>
    obtain rfl : v = .non := h
    exact .non
  | some e =>
    obtain ⟨r, rfl, h2⟩ := h
    exact .tup h2 (.cons (.str _) (.cons (.str _) .nil))
def okO (o : Option (Str × Str)) : Prop := ∀ e, o = some e → PyData.strOk e.1 = true ∧ PyData.strOk e.2 = true
theorem nearD_ok {o : Option (Str × Str)} (h : okO o) : SeqAt.shaped (nearD o) = true ∧ PyData.eqv (nearD o) (nearD o) = true := by
  cases o with
  | none => exact ⟨by decide +kernel, by decide +kernel⟩
  | some e =>
    obtain ⟨a, b⟩ := h e rfl
    exact ⟨by simp [nearD, SeqAt.shaped, PyData.canLay0, PyData.canLayAll0, PyData.depth, PyData.depthAll, a, b], by simp [nearD, PyData.eqv, PyData.eqvAll]⟩
theorem ne_near {K : PySem.W.Frag} {G : Hp} {u v : V} {o : Option (Str × Str)} {R : VK} (hu : Near K G u o) (hv : Near K G v o) (ok : okO o) (k : R (.bl false) G) : rNeD K u v G R := by
  obtain ⟨a, b⟩ := nearD_ok ok
  refine ⟨_, _, near_dp hu, near_dp hv, a, a, ?_⟩
  rw [b]
  exact k
theorem step_ok {s : Str} {st : List StE} {tl : List (Str × Str)} (ok : OkParts s st tl) (z l : Str) : okO (stepOf st z l) := by
  intro q h
  unfold stepOf at h
  cases e : st.find? fun e => decide (e.1 = (z, l)) with
  | none => rw [e] at h; cases h
  | some x =>
    rw [e] at h
    obtain rfl := Option.some.inj h
    have o := ok.ost x (List.mem_of_find?_eq_some e)
    exact ⟨ok_let o.2.2.1, ok_let o.2.2.2⟩
section
variable {P : Program} {w : World} {K : PySem.W.Frag} {mg : Str → Option Value} {base : Heap} {H : Hp} {R : VK} {x q d t : Addr} {s z l : Str} {st : List StE} {tl : List (Str × Str)} {σ : L2.St}
theorem get_run (h0 : σ[0]? = some (some (.ref x))) (h3 : σ[3]? = some (some (.str z))) (h4 : σ[4]? = some (some (.str l))) (cv : CvAt K (gC mg) H x s st tl) (hz : z ∈ namesOf s st tl) (hl : isLet l = true)
    (k : ∀ v H', Same H H' → Near K H' v (stepOf st z l) → R v H') : tOp (rOwnIx (gC mg) (spGet K (gC mg)) E0) (tVar 0) (tTup (tCons (tVar 3) (tCons (tVar 4) tNil))) σ H R := by
  refine ⟨_, h0, _, h3, _, h4, (by show 2 ≤ sizeLine; decide), fun kt hkt => ?_⟩
  have s1 : Same H (upd H kt (.tup [.str z, .str l])) := Same.new hkt
  have gk : upd H kt (.tup [.str z, .str l]) kt = some (.tup [.str z, .str l]) := upd_same
  generalize upd H kt (.tup [.str z, .str l]) = H1 at s1 gk
  have cv1 := CvAt.same cv s1
  obtain ⟨dx, ss, ls, d, t, ys, zs, c1, _⟩ := id cv1
  refine ⟨x, dx, _, rfl, c1, x, kt, z, l, s, st, tl, rfl, cv1, gk, hz, hl, ?_⟩
  cases e : stepOf st z l with
  | none => exact fun H' s2 => k _ _ (s1.trans s2) (by rw [e]; exact rfl)
  | some p =>
    obtain ⟨a, to⟩ := p
    exact fun qa H' s2 hq => k _ _ (s1.trans s2) (by rw [e]; exact ⟨qa, rfl, hq⟩)
def tailV (o : Option Str) : V := match o with | none => .non | some t => .str t
theorem due_run (h1 : σ[1]? = some (some (.ref q))) (h3 : σ[3]? = some (some (.str z))) (h4 : σ[4]? = some (some (.str l))) (pt : PtAt K H q s st tl) (k : ∀ v H', Same H H' → Near K H' v (stepOf st z l) → R v H') :
    tIf (tB (tDIn (tTup (tCons (tVar 3) (tCons (tVar 4) tNil))) (tOp (rIxT K) (tVar 1) (tC (.int 1))))) (tDGet (tOp (rIxT K) (tVar 1) (tC (.int 1))) (tTup (tCons (tVar 3) (tCons (tVar 4) tNil)))) (tC .non) σ H R := by
  obtain ⟨d, t, hq, ⟨kvs, hd, hst, nd⟩, ht, ndt⟩ := pt
  refine ⟨_, h3, _, h4, (by show 2 ≤ sizeLine; decide), fun kt hkt => ?_⟩
  have s1 : Same H (upd H kt (.tup [.str z, .str l])) := Same.new hkt
  have gk : upd H kt (.tup [.str z, .str l]) kt = some (.tup [.str z, .str l]) := upd_same
  generalize upd H kt (.tup [.str z, .str l]) = H1 at s1 gk
  refine ⟨_, h1, q, _, 1, _, rfl, rfl, SqT.of (s1 _ _ hq), rfl, d, _, rfl, .inr ⟨kvs, [.inr z, .inr l], kt, .inl (s1 _ _ hd), rfl, gk, rfl⟩, _, rfl, ?_⟩
  rcases (hst.same s1).get nd z l with ⟨e1, e2⟩ | ⟨an, to, r, e1, e2, e3⟩
  · rw [e2]
    exact iteF (k _ _ s1 (by rw [e1]; exact rfl))
  · rw [e2]
    refine iteT ⟨_, h1, q, _, 1, _, rfl, rfl, SqT.of (s1 _ _ hq), rfl, _, h3, _, h4, (by show 2 ≤ sizeLine; decide), fun kt2 hkt2 => ?_⟩
    have s2 : Same H1 (upd H1 kt2 (.tup [.str z, .str l])) := Same.new hkt2
    exact ⟨d, .ref r, rfl, .inr ⟨kvs, [.inr z, .inr l], kt2, .inl (s2 _ _ (s1 _ _ hd)), rfl, upd_same, e2.symm⟩, k _ _ (s1.trans s2) (by rw [e1]; exact ⟨r, rfl, e3.ext s2⟩)⟩
theorem dueT_run (h1 : σ[1]? = some (some (.ref q))) (h3 : σ[3]? = some (some (.str z))) (pt : PtAt K H q s st tl) (k : R (tailV (tailOf tl z)) H) :
    tIf (tB (tDIn (tVar 3) (tOp (rIxT K) (tVar 1) (tC (.int 2))))) (tDGet (tOp (rIxT K) (tVar 1) (tC (.int 2))) (tVar 3)) (tC .non) σ H R := by
  obtain ⟨d, t, hq, _, ht, ndt⟩ := pt
  refine ⟨_, h3, _, h1, q, _, 2, _, rfl, rfl, SqT.of hq, rfl, t, _, rfl, .inl ⟨_, .inr z, .inl ht, rfl, rfl⟩, _, rfl, ?_⟩
  rw [valV_tl, Option.isSome_map]
  cases e : tailOf tl z with
  | none => rw [e] at k; exact iteF k
  | some u =>
    rw [e] at k
    refine iteT ⟨_, h1, q, _, 2, _, rfl, rfl, SqT.of hq, rfl, _, h3, t, .str u, rfl, .inl ⟨_, .inr z, .inl ht, rfl, ?_⟩, k⟩
    rw [valV_tl, e]
    rfl
theorem ne_tail (ok : OkParts s st tl) (k : R (.bl false) H) : rNeD K (tailV (tailOf tl z)) (tailV (tailOf tl z)) H R := by
  cases e : tailOf tl z with
  | none => exact ⟨.none, .none, .non, .non, by decide +kernel, by decide +kernel, k⟩
  | some t =>
    have so : PyData.strOk t = true := by
      unfold tailOf at e
      cases e2 : tl.find? fun e => decide (e.1 = z) with
      | none => rw [e2] at e; cases e
      | some p =>
        rw [e2] at e
        obtain rfl := Option.some.inj e
        exact ok_let (ok.otl p (List.mem_of_find?_eq_some e2)).2
    refine ⟨.str t, .str t, .str t, .str t, by simp [SeqAt.shaped, PyData.canLay0, PyData.depth, so], by simp [SeqAt.shaped, PyData.canLay0, PyData.depth, so], ?_⟩
    rw [show PyData.eqv (.str t) (.str t) = true by simp [PyData.eqv]]
    exact k
theorem tail_run {te ta : TE} (recv : ∀ R : VK, R (.ref x) H → te σ H R) (arg : ∀ R : VK, R (.str z) H → ta σ H R) (cv : CvAt K (gC mg) H x s st tl) (hz : z ∈ namesOf s st tl)
    (k : R (tailV (tailOf tl z)) H) : tMeth (gC mg) "tail" (spTail K (gC mg)) [] E0 te (tCons ta tNil) σ H R := by
  obtain ⟨dx, ss, ls, d, t, ys, zs, c1, _⟩ := id cv
  refine recv _ ⟨x, dx, _, rfl, c1, rfl, arg _ ⟨x, z, s, st, tl, rfl, cv, hz, ?_⟩⟩
  cases e : tailOf tl z with
  | none => rw [e] at k; exact k
  | some t => rw [e] at k; exact k
end
def ltrs7 : Str := "abnxyzq"
def ltrs8 : Str := "abcdnxyz"
theorem let7 : ∀ c ∈ ltrs7.cps.toList, isLet ⟨#[c]⟩ = true := by decide +kernel
section
variable {P : Program} {w : World} {K : PySem.W.Frag} {mg : Str → Option Value} {base : Heap}
def spRight (K : PySem.W.Frag) (C : Addr) : Sp := fun vs H Q _ => ∃ (x q : Addr) (s : Str) (st : List StE) (tl : List (Str × Str)), vs = [.ref x, .ref q] ∧ CvAt K C H x s st tl ∧ PtAt K H q s st tl ∧ OkParts s st tl ∧ ∀ H', Same H H' → Q (.bl true) H'
theorem kp_right (T : Txt K mg) (TM : TxM K mg) : Kf P w K mg base 8 "_law_right" ["_law_made", "_law_parts_here"] (spRight K (gC mg)) := by
  have TC := TM.C
  refine T.d_lright.okF sc_lright (fun vs H Q E h => ?_) (fun f cdv A outer s H vs Q E hA hr h => ?_)
  · obtain ⟨x, q, s, st, tl, rfl, _⟩ := h
    rfl
  · obtain ⟨x, q, s, st, tl, rfl, cv, pt, ok, k⟩ := h
    refine ⟨_, (pss_cons (ps_set (i := 2) sc_lright.nd rfl (Or.inl rfl) (pe_kf (kp_lst T) hA hr (by rfl) (pa_cons (pv 1) pa_nil)))
 (pss_cons (ps_for PassesOwn.never rfl (pi_list (pv 2)) (pg_name (i := 3) sc_lright.nd rfl (Or.inr rfl))
 (pss_cons (ps_for PassesOwn.never rfl (pi_str (pe_str)) (pg_name (i := 4) sc_lright.nd rfl (Or.inl rfl))
 (pss_cons (ps_set (i := 5) sc_lright.nd rfl (Or.inl rfl) (pe_ifExp (pt_cmp (pc_din (hu_of hr) (pe_tup (pa_cons (pv 3) (pa_cons (pv 4) pa_nil))) (pe_ix (ix_tup : IxR _ (rIxT K)) (pv 1) (pe_int) (fun _ _ => rfl)))) (pe_dget (hu_of hr) (pe_ix (ix_tup : IxR _ (rIxT K)) (pv 1) (pe_int) (fun _ _ => rfl)) (pe_tup (pa_cons (pv 3) (pa_cons (pv 4) pa_nil))) (fun _ _ => rfl)) (pe_non)))
 (pss_one (ps_if (PW.pt (pw_or (pt_cmpR (op_neD hr.units : OpR _ _ (rNeD K)) (pe_kge (kp_get TM) hr passE0 (pv 0) (pe_tup (pa_cons (pv 3) (pa_cons (pv 4) pa_nil)))) (pv 5) (nomark _)) (pw_or1 (pt_cmpR (op_neD hr.units : OpR _ _ (rNeD K)) (pe_kge (kp_get TM) hr passE0 (pv 0) (pe_tup (pa_cons (pv 3) (pa_cons (pv 4) pa_nil)))) (pv 5) (nomark _)))))
 (pss_one (ps_ret (pe_bl))) pss_nil))))
 (pss_cons (ps_set (i := 5) sc_lright.nd rfl (Or.inl rfl) (pe_ifExp (pt_cmp (pc_din (hu_of hr) (pv 3) (pe_ix (ix_tup : IxR _ (rIxT K)) (pv 1) (pe_int) (fun _ _ => rfl)))) (pe_dget (hu_of hr) (pe_ix (ix_tup : IxR _ (rIxT K)) (pv 1) (pe_int) (fun _ _ => rfl)) (pv 3) (fun _ _ => rfl)) (pe_non)))
 (pss_one (ps_if (PW.pt (pw_or (pt_cmpR (op_neD hr.units : OpR _ _ (rNeD K)) (pe_kme (kp_tail TM) TM.C.cls hr (pv 0) (pa_cons (pv 3) pa_nil)) (pv 5) (nomark _)) (pw_or1 (pt_cmpR (op_neD hr.units : OpR _ _ (rNeD K)) (pe_kmeK (kp_tail TM) TM.C.cls hr (pv 0) (pk_cons (pv 3) pk_nil) sp_tail_len) (pv 5) (nomark _)))))
 (pss_one (ps_ret (pe_bl))) pss_nil)))))
 (pss_cons (ps_set (i := 6) sc_lright.nd rfl (Or.inr rfl) (pe_lock (pe_lc (g := gTup K 2 (gCons (gName 3) (gCons (gName 4) gNil))) (own := [("_law_state", 3), ("_law_letter", 4)]) (tt := tYes) rfl sc_lright.nd (pi_keys (pe_ix (ix_tup : IxR _ (rIxT K)) (pv 1) (pe_int) (fun _ _ => rfl))) (blkOk_by (N := n_lright) (sc := defScope s_lright) (by decide +kernel)) (fun _ _ _ _ _ => pg_tup rfl (pgs_cons (pg_name (i := 3) sc_lright.nd rfl (Or.inl rfl)) (pgs_cons (pg_name (i := 4) sc_lright.nd rfl (Or.inl rfl)) pgs_nil))) (fun _ _ _ _ _ => pts_nil) (fun _ _ _ _ _ => (pv 4)))))
 (pss_cons (ps_if (pt_cmpR (op_neD hr.units : OpR _ _ (rNeD K)) (pe_lc (own := [("_law_letter", 4)]) (g := gName 4) rfl sc_lright.nd (pi_str (pe_str)) (blkOk_by (N := n_lright) (sc := defScope s_lright) (by decide +kernel)) (fun _ _ _ _ _ => pg_name (i := 4) sc_lright.nd rfl (Or.inl rfl)) (fun _ _ _ _ _ => (pts_one (pt_cmpR op_ne (pe_cmpR (op_inO (ka_cont TM) hr) (pv 4) (pv 0) rfl) (pe_cmpR (op_in_seq : OpR _ _ (rIn K false)) (pv 4) (pv 6) rfl) (nomark _)))) (fun _ _ _ _ _ => (pv 4))) (pe_lst pa_nil) (nomark _))
 (pss_one (ps_ret (pe_bl))) pss_nil)
 (pss_cons (ps_set (i := 7) sc_lright.nd rfl (Or.inl rfl) (pe_int))
 (pss_cons (ps_for PassesOwn.never rfl (pi_ownT (ka_iter TM) hr (pv 0)) (pg_name (i := 3) sc_lright.nd rfl (Or.inr rfl))
 (pss_one (ps_set (i := 7) sc_lright.nd rfl (Or.inl rfl) (pe_op op_add (pv 7) (pe_callB call_len (by rfl) (T.nb _ (by decide)) PySem.boot_len (pa_cons (pe_lc (own := [("_law_other", 8)]) (g := gName 8) rfl sc_lright.nd (pi_ownT (ka_iter TM) hr (pv 0)) (blkOk_by (N := n_lright) (sc := defScope s_lright) (by decide +kernel)) (fun _ _ _ _ _ => pg_name (i := 8) sc_lright.nd rfl (Or.inl rfl)) (fun _ _ _ _ _ => (pts_one (pt_cmpR op_ge_str (pv 8) (pv 3) (nomark _)))) (fun _ _ _ _ _ => (pe_int))) pa_nil))))))
 (pss_cons (ps_if (pt_cmpR op_ne (pe_op op_mul (pe_int) (pv 7)) (pe_op op_mul (pe_callB call_len (by rfl) (T.nb _ (by decide)) PySem.boot_len (pa_cons (pv 2) pa_nil)) (pe_op op_add (pe_callB call_len (by rfl) (T.nb _ (by decide)) PySem.boot_len (pa_cons (pv 2) pa_nil)) (pe_int))) (nomark _))
 (pss_one (ps_ret (pe_bl))) pss_nil)
 (pss_one (ps_ret ((pe_and (pe_cmpR (op_eqD hr.units : OpR _ _ (rEqD K)) (pe_lc (own := [("_law_state", 3)]) (g := gName 3) (tt := tYes) rfl sc_lright.nd (pi_ownT (ka_iter TM) hr (pv 0)) (blkOk_by (N := n_lright) (sc := defScope s_lright) (by decide +kernel)) (fun _ _ _ _ _ => pg_name (i := 3) sc_lright.nd rfl (Or.inl rfl)) (fun _ _ _ _ _ => pts_nil) (fun _ _ _ _ _ => (pv 3))) (pv 2) (nomark _)) (pe_one (pe_cmpR op_eq (pe_callB (call_lenO (ka_len TM) hr) (by rfl) (T.nb _ (by decide)) PySem.boot_len (pa_cons (pv 0) pa_nil)) (pe_callB call_len (by rfl) (T.nb _ (by decide)) PySem.boot_len (pa_cons (pv 2) pa_nil)) (nomark _)))))))))))))), ?_⟩
    refine seq_i ⟨_, rfl, q, s, st, tl, rfl, pt, Nat.le_trans ok.lst (by decide), Nat.le_trans ok.ltl (by decide), Nat.lt_of_le_of_lt ok.n6 (by decide), fun us D H1 up us0 s1 gD => ?_⟩
    have cv := CvAt.same cv s1
    have pt := pt.same s1
    have k : ∀ H', Same H1 H' → Q (.bl true) H' := fun H' s2 => k H' (s1.trans s2)
    clear s1
    refine ⟨_, rfl, D, rfl, ⟨_, SqL.of gD⟩, ?_⟩
    refine for_list (xs := us.map V.str) (fun i σ H' => ∃ v3 v4 v5 : Option V, Same H1 H' ∧ σ = [some (.ref x), some (.ref q), some (.ref D), v3, v4, v5, none, none, none])
      ⟨_, _, _, fun _ _ e => e, rfl⟩ (fun i σ H' _ ⟨_, _, _, sm, _⟩ => SqL.of (sm _ _ gD)) ?_ ?_
    · rintro i xv σ G1 hx ⟨v3, v4, v5, sm, rfl⟩
      obtain ⟨z, hz, rfl⟩ : ∃ z, us[i]? = some z ∧ xv = .str z := by
        rw [List.getElem?_map] at hx
        cases e : us[i]? with
        | none => rw [e] at hx; cases hx
        | some q => rw [e] at hx; exact ⟨q, rfl, (Option.some.inj hx).symm⟩
      have zn : z ∈ namesOf s st tl := up.mem_iff.mp (List.mem_of_getElem? hz)
      refine ⟨ltrs7, rfl, ?_⟩
      refine for_it (walk_str (z := ltrs7)) (fun i σ H' => ∃ v4 v5 : Option V, Same H1 H' ∧ σ = [some (.ref x), some (.ref q), some (.ref D), some (.str z), v4, v5, none, none, none])
        ⟨_, _, sm, rfl⟩ (fun _ _ _ _ _ => True.intro) ?_ ?_
      · rintro i xv σ G2 G3 hi ⟨v4, v5, sm2, rfl⟩ ⟨rfl, c, hc, rfl⟩
        have hl : isLet ⟨#[c]⟩ = true := let7 c (by
          rw [Array.getElem?_eq_some_iff] at hc
          obtain ⟨h1, h2⟩ := hc
          rw [← h2]
          simp)
        refine due_run rfl rfl rfl (pt.same sm2) fun dv G3 s3 nd3 => ?_
        have sm3 := sm2.trans s3
        refine get_run rfl rfl rfl (CvAt.same cv sm3) zn hl fun w1 G4 s4 n4 => ⟨_, rfl, ne_near n4 (nd3.same s4) (step_ok ok z _) ⟨_, rfl, iteF ?_⟩⟩
        have sm4 := sm3.trans s4
        refine get_run rfl rfl rfl (CvAt.same cv sm4) zn hl fun w2 G5 s5 n5 => ⟨_, rfl, ne_near n5 ((nd3.same s4).same s5) (step_ok ok z _) ⟨_, rfl, iteF ?_⟩⟩
        exact ⟨_, _, sm4.trans s5, rfl⟩
      · rintro σ G2 ⟨v4, v5, sm2, rfl⟩
        have cv2 := CvAt.same cv sm2
        refine dueT_run rfl rfl (pt.same sm2) ?_
        refine tail_run (te := tVar 0) (ta := tVar 3) (fun R h => ⟨_, rfl, h⟩) (fun R h => ⟨_, rfl, h⟩) cv2 zn ⟨_, rfl, ne_tail ok ⟨_, rfl, iteF ?_⟩⟩
        refine tail_run (te := tVar 0) (ta := tVar 3) (fun R h => ⟨_, rfl, h⟩) (fun R h => ⟨_, rfl, h⟩) cv2 zn ⟨_, rfl, ne_tail ok ⟨_, rfl, iteF ?_⟩⟩
        exact ⟨_, _, _, sm2, rfl⟩
    · rintro σ G1 ⟨v3, v4, v5, sm, rfl⟩
      have pt1 := pt.same sm
      have cv1 := CvAt.same cv sm
      have k1 : ∀ H', Same G1 H' → Q (.bl true) H' := fun H' s2 => k H' (sm.trans s2)
      have gD1 := sm _ _ gD
      clear k cv pt sm gD
      obtain ⟨d, t, hq, hst0, ht, ndt⟩ := pt1
      obtain ⟨kvs, hd, hst, nd⟩ := id hst0
      -- the letters
      refine ⟨d, _, hd, trivial, fun od => ?_⟩
      have hl : upd G1 d (.frz od (.dT kvs)) d = some (.frz od (.dT kvs)) := upd_same
      have nqd : q ≠ d := fun z => by rw [z, hd] at hq; cases hq
      have hqL : upd G1 d (.frz od (.dT kvs)) q = _ := upd_oth nqd hq
      generalize eHL : upd G1 d (.frz od (.dT kvs)) = HL at hl hqL
      refine ⟨_, rfl, q, _, 1, _, rfl, rfl, SqT.of hqL, rfl, d, od, rfl, .inr ⟨kvs, hl, fun M hM => ?_⟩⟩
      refine lc_it (walk_keysT (d := d) (o := od) (kvs := kvs)) (fun i H' => Same HL H' ∧ H' M = some (.lst (((st.take i).map fun e => e.1.2).map V.str))) ⟨Same.new hM, upd_same⟩ (fun i H' _ p => p.1 _ _ hl) ?_ ?_
      · rintro i x0 A1 A2 hi ⟨sm, gM⟩ ⟨rfl, k0, v0, kq, e0, rfl, hkq⟩
        have hi' : i < st.length := by rw [hst.len] at hi; exact hi
        obtain ⟨e, he⟩ : ∃ e, st[i]? = some e := ⟨_, List.getElem?_eq_getElem hi'⟩
        obtain ⟨qv, h1, h2⟩ := hst.2 i e he
        rw [h1] at e0
        obtain ⟨rfl, rfl⟩ := Prod.mk.inj (Option.some.inj e0)
        have hkq' : A2 kq = some (.tup [.str e.1.1, .str e.1.2]) := hkq
        refine ⟨kq, _, rfl, SqT.of hkq', rfl, _, _, rfl, _, _, rfl, rfl, ?_⟩
        refine ⟨rfl, yes_run ?_⟩
        refine ⟨_, rfl, _, gM, ?_, fun b o eb => upd_oth (fun z => by rw [z, hM] at eb; cases eb) (sm _ _ eb), ?_⟩
        · rw [List.length_map, List.length_map, List.length_take]
          have := ok.lst
          exact Nat.lt_of_le_of_lt (show _ ≤ 1000 by omega) (by decide)
        · rw [upd_same, List.take_add_one, he, List.map_append, List.map_append]
          try rfl
      rintro A1 ⟨sm, gM⟩
      rw [hst.len, List.take_length] at gM
      refine ⟨sm _ _ hl, ?_⟩
      have su : Same G1 (upd A1 d (.dT kvs)) := unlock_same (u' := .frz od (.dT kvs)) hd (by rw [eHL]; exact sm)
      have nMd : M ≠ d := fun z => by rw [z, hl] at hM; cases hM
      have gM2 : upd A1 d (.dT kvs) M = some (.lst ((st.map fun e => e.1.2).map V.str)) := upd_oth nMd gM
      generalize upd A1 d (.dT kvs) = G2 at su gM2
      have cv2 := CvAt.same cv1 su
      have k2 : ∀ H', Same G2 H' → Q (.bl true) H' := fun H' s2 => k1 H' (su.trans s2)
      have gD2 := su _ _ gD1
      clear k1 cv1 su sm gM nMd hl hqL eHL hM hd hst nd gD1 hq ht hst0
      -- which of some are letters
      refine ⟨ltrs8, rfl, fun D2 hD2 => ?_⟩
      refine lc_it (walk_str (z := ltrs8)) (fun i H' => Same G2 H' ∧ H' D2 = some (.lst [])) ⟨Same.new hD2, upd_same⟩ (fun _ _ _ _ => True.intro) ?_ ?_
      · rintro i x0 A1 A2 hi ⟨sm, gE⟩ ⟨rfl, c, hc, rfl⟩
        have cva := CvAt.same cv2 sm
        obtain ⟨dx, ss, ls, d2, t2, ys, zs, c1, _⟩ := id cva
        refine ⟨rfl, ?_⟩
        refine ⟨_, rfl, _, rfl, x, dx, _, rfl, c1, x, _, s, st, tl, rfl, cva, .inr ⟨_, rfl, _, rfl, ?_⟩⟩
        refine ⟨_, rfl, _, rfl, M, _, rfl, .inl (SqL.of (sm _ _ gM2)), rfl, flat_strs _, ?_⟩
        have e : inV (.str ⟨#[c]⟩) ((st.map fun e => e.1.2).map V.str) = decide ((⟨#[c]⟩ : Str) ∈ lettersOf st) := by
          rw [inV_strs]
          exact decide_eq_decide.mpr mem_lets.symm
        rw [show (if false = true then !inV (.str ⟨#[c]⟩) ((st.map fun e => e.1.2).map V.str) else inV (.str ⟨#[c]⟩) ((st.map fun e => e.1.2).map V.str)) = inV (.str ⟨#[c]⟩) ((st.map fun e => e.1.2).map V.str) from if_neg Bool.false_ne_true, e]
        exact ne_same rfl ⟨_, rfl, iteF ⟨sm, gE⟩⟩
      rintro A1 ⟨sm, gE⟩
      refine ⟨(by show 0 ≤ sizeLine; decide), fun l0 hl0 => ?_⟩
      have s3 : Same A1 (upd A1 l0 (.lst [])) := Same.new hl0
      refine ⟨_, _, .lst (SqL.of (s3 _ _ gE)) .nil, .lst (SqL.of upd_same) .nil, by decide +kernel, by decide +kernel, _, rfl, iteF ?_⟩
      have sm3 := sm.trans s3
      generalize upd A1 l0 (.lst []) = G3 at sm3
      have cv3 := CvAt.same cv2 sm3
      have k3 : ∀ H', Same G3 H' → Q (.bl true) H' := fun H' s2 => k2 H' (sm3.trans s2)
      have gD3 := sm3 _ _ gD2
      clear k2 cv2 sm3 s3 sm gE hl0 hD2 gD2 gM2
      -- how many stand at or behind each
      dsimp only [tNext, tAsg, gName, tC, tSeq]
      refine for_i (iter_run (te := tVar 0) (fun R h => by exact ⟨_, rfl, h⟩) cv3 fun ss ys gss py soy => ?_)
      have nd2 : ys.Nodup := py.nodup_iff.mpr (nd_names s st tl)
      have eus : us = ys := sorted_uniq us0 soy (up.trans py.symm)
      subst eus
      have l6 : us.length ≤ 6 := by rw [py.length_eq]; exact ok.n6
      refine for_tup (a := ss) (xs := us.map V.str) (fun i σ H' => ∃ (v3 v4 v8 : Option V) (p : Nat), Same G3 H' ∧ σ = [some (.ref x), some (.ref q), some (.ref D), v3, v4, v5, some (.ref M), some (.int (p : Nat)), v8] ∧ 2 * p + i * i = 2 * us.length * i + i)
        ⟨_, _, _, 0, fun _ _ e => e, rfl, by omega⟩ (fun i σ H' _ ⟨_, _, _, _, sm, _⟩ => SqT.of (sm _ _ gss)) ?_ ?_
      · rintro i xv σ A1 hx ⟨v3, v4, v8, p, sm, rfl, hp⟩
        have ilt : i < us.length := by
          have := (List.getElem?_eq_some_iff.mp hx).1
          rwa [List.length_map] at this
        obtain ⟨z, hz, rfl⟩ : ∃ z, us[i]? = some z ∧ xv = .str z := by
          rw [List.getElem?_map] at hx
          cases e : us[i]? with
          | none => rw [e] at hx; cases hx
          | some q => rw [e] at hx; exact ⟨q, rfl, (Option.some.inj hx).symm⟩
        have pb : p ≤ 100 := by
          have : 2 * us.length * i + i ≤ 2 * 6 * 6 + 6 := Nat.add_le_add (Nat.mul_le_mul (Nat.mul_le_mul_left 2 l6) (by omega)) (by omega)
          omega
        refine ⟨_, rfl, ?_⟩
        refine cb1_i (iter_run (te := tVar 0) (σ := [some (.ref x), some (.ref q), some (.ref D), some (.str z), v4, v5, some (.ref M), some (.int (p : Nat)), v8]) (fun R h => ⟨_, rfl, h⟩) (CvAt.same cv3 sm) fun ss2 ys2 gss2 py2 soy2 => ?_)
        intro D3 hD3
        have e2 : ys2 = us := sorted_uniq soy2 us0 (py2.trans up.symm)
        subst e2
        refine lc_it (walk_tup (a := ss2) (xs := ys2.map V.str)) (fun j H' => Same A1 H' ∧ H' D3 = some (.lst (List.replicate (j - i) (.int 1)))) ⟨Same.new hD3, by rw [Nat.zero_sub]; exact upd_same⟩ (fun _ _ _ p => SqT.of (p.1 _ _ gss2)) ?_ ?_
        · rintro j x0 B1 B2 hj ⟨sm2, gE⟩ ⟨rfl, hx0⟩
          rw [List.length_map] at hj
          obtain ⟨y, hy⟩ : ∃ y, ys2[j]? = some y := ⟨_, List.getElem?_eq_getElem hj⟩
          rw [List.getElem?_map, hy] at hx0
          obtain rfl : V.str y = x0 := Option.some.inj hx0
          refine ⟨rfl, ?_⟩
          refine ⟨_, rfl, _, rfl, y, z, rfl, rfl, ?_⟩
          rw [ge_at us0 nd2 hz hy]
          refine ⟨_, rfl, ?_⟩
          by_cases c : i ≤ j
          · rw [decide_eq_true c]
            refine iteT ⟨_, gE, ?_, fun b o eb => upd_oth (fun z => by rw [z, hD3] at eb; cases eb) (sm2 _ _ eb), ?_⟩
            · rw [List.length_replicate]
              exact Nat.lt_of_le_of_lt (show _ ≤ 100 by omega) (by decide)
            · rw [upd_same, show j + 1 - i = (j - i) + 1 by omega, List.replicate_succ']
          · rw [decide_eq_false c]
            refine iteF ⟨sm2, ?_⟩
            rw [show j + 1 - i = j - i by omega]
            exact gE
        · rintro B1 ⟨sm2, gE⟩
          rw [List.length_map] at gE
          refine ⟨.ref D3, _, rfl, .inl ⟨_, SqL.of gE, rfl⟩, ?_⟩
          rw [List.length_replicate]
          refine ⟨_, _, rfl, rfl, _, _, _, p + (ys2.length - i), sm.trans sm2, by rw [Int.natCast_add]; rfl, ?_⟩
          exact sum_step ilt hp
      · rintro σ A1 ⟨v3, v4, v8, p, sm, rfl, hp⟩
        rw [List.length_map] at hp
        have gD4 := sm _ _ gD3
        have cv4 := CvAt.same cv3 sm
        have pb : p ≤ 100 := by
          have : 2 * us.length * us.length + us.length ≤ 2 * 6 * 6 + 6 := Nat.add_le_add (Nat.mul_le_mul (Nat.mul_le_mul_left 2 l6) l6) l6
          omega
        have e4 := sum_end hp
        have ll : ((us.map V.str).length : Nat) = us.length := List.length_map _
        refine ⟨_, rfl, _, _, rfl, rfl, .inl ⟨by decide, by decide⟩, ?_⟩
        refine ⟨_, rfl, .ref D, _, rfl, .inl ⟨_, SqL.of gD4, rfl⟩, _, rfl, .ref D, _, rfl, .inl ⟨_, SqL.of gD4, rfl⟩, _, _, rfl, rfl, _, _, rfl, rfl, .inl ⟨by omega, by rw [ll]; omega⟩, ?_⟩
        dsimp only
        rw [ll, e4]
        refine ne_same (by simp [scal]) ⟨_, rfl, iteF ?_⟩
        dsimp only [tNext, tRet, tAndV, tOp]
        refine iter_run (te := tVar 0) (σ := [some (.ref x), some (.ref q), some (.ref D), v3, v4, v5, some (.ref M), some (.int (p : Nat)), v8]) (fun R h => ⟨_, rfl, h⟩) cv4 fun ss2 ys2 gss2 py2 soy2 => ?_
        have e2 : ys2 = us := sorted_uniq soy2 us0 (py2.trans up.symm)
        subst e2
        intro D3 hD3
        refine lc_it (walk_tup (a := ss2) (xs := ys2.map V.str)) (fun j H' => Same A1 H' ∧ H' D3 = some (.lst ((ys2.take j).map V.str))) ⟨Same.new hD3, upd_same⟩ (fun _ _ _ p => SqT.of (p.1 _ _ gss2)) ?_ ?_
        · rintro j x0 B1 B2 hj ⟨sm2, gE⟩ ⟨rfl, hx0⟩
          rw [List.length_map] at hj
          obtain ⟨y, hy⟩ : ∃ y, ys2[j]? = some y := ⟨_, List.getElem?_eq_getElem hj⟩
          rw [List.getElem?_map, hy] at hx0
          obtain rfl : V.str y = x0 := Option.some.inj hx0
          refine ⟨rfl, yes_run ?_⟩
          refine ⟨_, rfl, _, gE, ?_, fun b o eb => upd_oth (fun z => by rw [z, hD3] at eb; cases eb) (sm2 _ _ eb), ?_⟩
          · rw [List.length_map, List.length_take]
            exact Nat.lt_of_le_of_lt (show _ ≤ 100 by omega) (by decide)
          · rw [upd_same, List.take_add_one, hy, List.map_append]
            try rfl
        · rintro B1 ⟨sm2, gE⟩
          rw [List.length_map, List.take_length] at gE
          have okN : ∀ y ∈ ys2, PyData.strOk y = true := fun y hy => ok_let (names_okN ok y (up.mem_iff.mp hy))
          have sh := shaped_strL okN
          refine ⟨_, rfl, _, _, .lst (SqL.of gE) (dp_strs ys2), .lst (SqL.of (sm2 _ _ gD4)) (dp_strs ys2), sh, sh, ?_⟩
          rw [show PyData.eqv (.list (ys2.map PyData.str)) (.list (ys2.map PyData.str)) = true by simp [PyData.eqv, eqv_strs ys2]]
          refine ⟨_, rfl, iteT ?_⟩
          have cv5 := CvAt.same cv4 sm2
          obtain ⟨dx, ss, ls, d2, t2, ys, zs, c1, _⟩ := id cv5
          refine ⟨_, rfl, x, dx, _, rfl, c1, x, s, st, tl, rfl, cv5, ok.n6, _, rfl, ?_, ?_⟩
          · exact Nat.lt_of_le_of_lt ok.n6 (by decide)
          refine ⟨_, rfl, .ref D, _, rfl, .inl ⟨_, SqL.of (sm2 _ _ gD4), rfl⟩, ?_⟩
          rw [ll, up.length_eq]
          refine ⟨rfl, ?_⟩
          rw [decide_eq_true rfl]
          exact k3 _ (sm.trans sm2)
end
end KC
namespace KC
open PySem L2 PyProof.Rows
/-- what is picked wrong -/
def oddTexts : List Str := ["", "nobody", "P", "ab", "A"]
def oddLsts : List (List Str) := [[]]
def oddTups : List (List Str) := [["p"], ["a"]]
def OddW (H : Hp) (v : V) : Prop := v = .non ∨ (∃ b : Bool, v = .bl b) ∨ (∃ i : Int, v = .int i ∧ 0 ≤ i ∧ i < 10) ∨ (∃ z, v = .str z ∧ z ∈ oddTexts) ∨ (∃ a zs, v = .ref a ∧ zs ∈ oddLsts ∧ H a = some (.lst (zs.map V.str))) ∨
  (∃ a zs, v = .ref a ∧ zs ∈ oddTups ∧ H a = some (.tup (zs.map V.str))) ∨ ∃ a, v = .ref a ∧ H a = some (.dK [])
/-- a wrong key -/
def KeyV (H : Hp) (v : V) : Prop := v = .non ∨ (∃ i : Int, v = .int i) ∨ (∃ z : Str, v = .str z) ∨ (∃ a xs, v = .ref a ∧ H a = some (.lst xs)) ∨
  (∃ a xs, v = .ref a ∧ xs.length ≠ 2 ∧ H a = some (.tup xs)) ∨ ∃ a, v = .ref a ∧ H a = some (.dK [])
/-- all but the pen and the tables stays -/
def ButN (p : Addr) (H H' : Hp) : Prop := ∀ b o, b ≠ p → H b = some o → (∀ ps, o ≠ .tbl ps) → H' b = some o
theorem ButN.but {p : Addr} {H H' : Hp} (h : But p H H') : ButN p H H' := fun b o n e _ => h b n o e
theorem ButN.extN {p : Addr} {H H' : Hp} (h : LamX.ExtN H H') : ButN p H H' := fun b o _ e n => h b o e n
theorem ButN.same {p : Addr} {H H' : Hp} (h : Same H H') : ButN p H H' := fun b o _ e _ => h b o e
theorem ButN.trans {p : Addr} {H H1 H2 : Hp} (h : ButN p H H1) (k : ButN p H1 H2) : ButN p H H2 := fun b o n e t => k b o n (h b o n e t) t
theorem OddW.keep {H H' : Hp} {v : V} (h : OddW H v) (m : ∀ a o, H a = some o → (∀ ps, o ≠ .tbl ps) → (∀ t g c, o ≠ .lst [.ref c, t, g]) → H' a = some o) : OddW H' v := by
  rcases h with h | h | h | h | ⟨a, zs, e, hz, h⟩ | ⟨a, zs, e, hz, h⟩ | ⟨a, e, h⟩
  · exact .inl h
  · exact .inr (.inl h)
  · exact .inr (.inr (.inl h))
  · exact .inr (.inr (.inr (.inl h)))
  · refine .inr (.inr (.inr (.inr (.inl ⟨a, zs, e, hz, m a _ h (fun _ z => by cases z) (fun t g c z => ?_)⟩))))
    have z := HO.lst.inj z
    simp only [oddLsts, List.mem_cons, List.not_mem_nil, or_false] at hz
    rw [hz] at z
    cases z
  · exact .inr (.inr (.inr (.inr (.inr (.inl ⟨a, zs, e, hz, m a _ h (fun _ z => by cases z) (fun _ _ _ z => by cases z)⟩)))))
  · exact .inr (.inr (.inr (.inr (.inr (.inr ⟨a, e, m a _ h (fun _ z => by cases z) (fun _ _ _ z => by cases z)⟩)))))
theorem OddW.butN {H H' : Hp} {v : V} {p : Addr} (h : OddW H v) (m : ButN p H H') (np : ∃ t g : V, ∃ c, H p = some (.lst [.ref c, t, g])) : OddW H' v :=
  h.keep fun a o e n1 n2 => m a o (fun z => by
    obtain ⟨t, g, c, np⟩ := np
    rw [z, np] at e
    exact n2 _ _ _ (Option.some.inj e).symm) e n1
theorem OddW.extN {H H' : Hp} {v : V} (h : OddW H v) (m : LamX.ExtN H H') : OddW H' v := h.keep fun a o e n1 _ => m a o e n1
theorem KeyV.extN {H H' : Hp} {v : V} (h : KeyV H v) (m : LamX.ExtN H H') : KeyV H' v := by
  rcases h with h | h | h | ⟨a, xs, e, h⟩ | ⟨a, xs, e, l, h⟩ | ⟨a, e, h⟩
  · exact .inl h
  · exact .inr (.inl h)
  · exact .inr (.inr (.inl h))
  · exact .inr (.inr (.inr (.inl ⟨a, xs, e, m a _ h (fun _ z => by cases z)⟩)))
  · exact .inr (.inr (.inr (.inr (.inl ⟨a, xs, e, l, m a _ h (fun _ z => by cases z)⟩))))
  · exact .inr (.inr (.inr (.inr (.inr ⟨a, e, m a _ h (fun _ z => by cases z)⟩))))
/-- a key on its way, the pen beside -/
theorem KeyV.but {H H' : Hp} {v : V} {p : Addr} (h : KeyV H v) (m : But p H H') (np : ∀ a, v = .ref a → a ≠ p) : KeyV H' v := by
  rcases h with h | h | h | ⟨a, xs, e, h⟩ | ⟨a, xs, e, l, h⟩ | ⟨a, e, h⟩
  · exact .inl h
  · exact .inr (.inl h)
  · exact .inr (.inr (.inl h))
  · exact .inr (.inr (.inr (.inl ⟨a, xs, e, m a (np a e) _ h⟩)))
  · exact .inr (.inr (.inr (.inr (.inl ⟨a, xs, e, l, m a (np a e) _ h⟩))))
  · exact .inr (.inr (.inr (.inr (.inr ⟨a, e, m a (np a e) _ h⟩))))
theorem KeyV.no {K : PySem.W.Frag} {H : Hp} {v : V} (h : KeyV H v) : NoKey K H v := by
  rcases h with rfl | ⟨i, rfl⟩ | ⟨z, rfl⟩ | ⟨a, xs, rfl, h⟩ | ⟨a, xs, rfl, l, h⟩ | ⟨a, rfl, h⟩
  · exact .inr ⟨_, fun _ _ => .non, kit_ty (by decide +kernel)⟩
  · exact .inr ⟨_, fun _ _ => .int i, kit_ty (by decide +kernel)⟩
  · exact .inr ⟨_, fun _ _ => .str z, kit_ty (by decide +kernel)⟩
  · exact .inr ⟨_, fun _ s => .lst (s _ _ h), kit_ty (by decide +kernel)⟩
  · exact .inl ⟨a, xs, rfl, SqT.of h, l⟩
  · exact .inr ⟨_, fun _ s => .dK (s _ _ h), kit_ty (by decide +kernel)⟩
theorem oddTexts_ok : ∀ z ∈ oddTexts, z.length ≤ 9 ∧ PyData.strOk (PyData.str z).shown = true ∧ (PyData.str z).shown.length ≤ 100 := by decide +kernel
theorem oddInts_ok : ∀ i : Nat, i < 10 → PyData.strOk (PyData.int (i : Int)).shown = true ∧ (PyData.int (i : Int)).shown.length ≤ 100 ∧ (PyData.int (i : Int)).showable = true := by decide +kernel
/-- it is shown by one text for good -/
theorem OddW.shw {K : PySem.W.Frag} {H : Hp} {v : V} (h : OddW H v) : ∃ t, PyData.strOk t = true ∧ ∀ H', LamX.ExtN H H' → Shw K H' v t := by
  rcases h with rfl | ⟨b, rfl⟩ | ⟨i, rfl, i0, i1⟩ | ⟨z, rfl, hz⟩ | ⟨a, zs, rfl, hz, h⟩ | ⟨a, zs, rfl, hz, h⟩ | ⟨a, rfl, h⟩
  · exact ⟨_, by decide +kernel, fun H' s => ⟨_, .non, rfl, by decide, by decide, rfl⟩⟩
  · cases b with
    | true => exact ⟨_, by decide +kernel, fun H' s => ⟨_, .bl _, rfl, by decide, by decide, rfl⟩⟩
    | false => exact ⟨_, by decide +kernel, fun H' s => ⟨_, .bl _, rfl, by decide, by decide, rfl⟩⟩
  · obtain ⟨n, rfl⟩ : ∃ n : Nat, i = (n : Int) := ⟨i.toNat, by omega⟩
    obtain ⟨q1, q2, q3⟩ := oddInts_ok n (by omega)
    exact ⟨_, q1, fun H' s => ⟨_, .int _, q3, by simp [PyData.depth], Nat.le_trans q2 (by decide), rfl⟩⟩
  · obtain ⟨_, q1, q2⟩ := oddTexts_ok z hz
    exact ⟨_, q1, fun H' s => ⟨_, .str z, by simp [PyData.showable], by simp [PyData.depth], Nat.le_trans q2 (by decide), rfl⟩⟩
  · simp only [oddLsts, List.mem_cons, List.not_mem_nil, or_false] at hz
    subst hz
    exact ⟨_, by decide +kernel, fun H' s => ⟨_, .lst (SqL.of (s _ _ h (fun _ z => by cases z))) .nil, rfl, by decide, by decide +kernel, rfl⟩⟩
  · simp only [oddTups, List.mem_cons, List.not_mem_nil, or_false] at hz
    rcases hz with rfl | rfl
    · exact ⟨_, by decide +kernel, fun H' s => ⟨_, .tup (SqT.of (s _ _ h (fun _ z => by cases z))) (.cons (.str "p") .nil), rfl, by decide, by decide +kernel, rfl⟩⟩
    · exact ⟨_, by decide +kernel, fun H' s => ⟨_, .tup (SqT.of (s _ _ h (fun _ z => by cases z))) (.cons (.str "a") .nil), rfl, by decide, by decide +kernel, rfl⟩⟩
  · exact ⟨_, by decide +kernel, fun H' s => ⟨_, .dic (s _ _ h (fun _ z => by cases z)) .nil, rfl, by decide, by decide +kernel, rfl⟩⟩
/-- it is no text of a kind -/
theorem OddW.bad {K : PySem.W.Frag} {H : Hp} {v : V} {lo hi : Nat} (h : OddW H v) (no : ∀ z, v = .str z → okL lo hi z = false) : BadV K lo hi H v := by
  rcases h with rfl | ⟨b, rfl⟩ | ⟨i, rfl, i0, i1⟩ | ⟨z, rfl, hz⟩ | ⟨a, zs, rfl, hz, h⟩ | ⟨a, zs, rfl, hz, h⟩ | ⟨a, rfl, h⟩
  · exact .inr ⟨_, fun _ _ => .non, kit_ty (by decide +kernel)⟩
  · exact .inr ⟨_, fun _ _ => .bl b, kit_ty (by decide +kernel)⟩
  · exact .inr ⟨_, fun _ _ => .int i, kit_ty (by decide +kernel)⟩
  · exact .inl ⟨z, rfl, by have := (oddTexts_ok z hz).1; omega, no z rfl⟩
  · exact .inr ⟨_, fun _ s => .lst (s _ _ h), kit_ty (by decide +kernel)⟩
  · exact .inr ⟨_, fun _ s => .tup (s _ _ h), kit_ty (by decide +kernel)⟩
  · exact .inr ⟨_, fun _ s => .dK (s _ _ h), kit_ty (by decide +kernel)⟩
theorem OddW.noT {H : Hp} {v : V} (h : OddW H v) : NoT H v ∨ ∃ z, v = .str z ∧ z ∈ oddTexts := by
  rcases h with rfl | ⟨b, rfl⟩ | ⟨i, rfl, i0, i1⟩ | ⟨z, rfl, hz⟩ | ⟨a, zs, rfl, hz, h⟩ | ⟨a, zs, rfl, hz, h⟩ | ⟨a, rfl, h⟩
  · exact .inl (.inl rfl)
  · exact .inl (.inr (.inr (.inl ⟨_, rfl⟩)))
  · exact .inl (.inr (.inl ⟨_, rfl⟩))
  · exact .inr ⟨z, rfl, hz⟩
  · exact .inl (.inr (.inr (.inr (.inl ⟨_, _, rfl, h⟩))))
  · exact .inl (.inr (.inr (.inr (.inr (.inl ⟨_, _, rfl, h⟩)))))
  · exact .inl (.inr (.inr (.inr (.inr (.inr ⟨_, _, rfl, h⟩)))))
theorem OddW.nost {H : Hp} {s : Str} {st : List StE} {tl : List (Str × Str)} {v : V} (h : OddW H v) (no : ∀ z, v = .str z → z ∉ namesOf s st tl) : NoSt H s st tl v := by
  rcases h.noT with a | ⟨z, e, _⟩
  · exact .inl a
  · exact .inr ⟨z, e, no z e⟩
/-- it is in no converter's letters -/
def NoLet (H : Hp) (v : V) : Prop := NoT H v ∨ ∃ z : Str, v = .str z ∧ isLet z = false
theorem oddTexts_let : ∀ z ∈ oddTexts, isLet z = false := by decide +kernel
theorem OddW.notlet {H : Hp} {v : V} (h : OddW H v) : NoLet H v := by
  rcases h.noT with a | ⟨z, e, hz⟩
  · exact .inl a
  · exact .inr ⟨z, e, oddTexts_let z hz⟩
def TupsAt (H : Hp) : List Addr → List (Str × Str) → Prop
  | [], [] => True
  | a :: as, p :: ps => H a = some (.tup [.str p.1, .str p.2]) ∧ TupsAt H as ps
  | _, _ => False
def pD (p : Str × Str) : PyData := .tuple [.str p.1, .str p.2]
theorem TupsAt.keep {H H' : Hp} (m : ∀ a p, H a = some (.tup p) → H' a = some (.tup p)) : ∀ {as : List Addr} {ps : List (Str × Str)}, TupsAt H as ps → TupsAt H' as ps
  | [], [], _ => True.intro
  | a :: as, p :: ps, h => ⟨m _ _ h.1, TupsAt.keep m h.2⟩
theorem TupsAt.snoc {H : Hp} {a : Addr} {p : Str × Str} (ha : H a = some (.tup [.str p.1, .str p.2])) : ∀ {as : List Addr} {ps : List (Str × Str)}, TupsAt H as ps → TupsAt H (as ++ [a]) (ps ++ [p])
  | [], [], _ => ⟨ha, True.intro⟩
  | b :: as, q :: ps, h => ⟨h.1, TupsAt.snoc ha h.2⟩
theorem TupsAt.app {H : Hp} {cs : List Addr} {qs : List (Str × Str)} (hc : TupsAt H cs qs) : ∀ {as : List Addr} {ps : List (Str × Str)}, TupsAt H as ps → TupsAt H (as ++ cs) (ps ++ qs)
  | [], [], _ => hc
  | b :: as, q :: ps, h => ⟨h.1, TupsAt.app hc h.2⟩
theorem TupsAt.len {H : Hp} : ∀ {as : List Addr} {ps : List (Str × Str)}, TupsAt H as ps → as.length = ps.length
  | [], [], _ => rfl
  | b :: as, q :: ps, h => by rw [List.length_cons, List.length_cons, TupsAt.len h.2]
theorem TupsAt.mem {H : Hp} {b : Addr} : ∀ {as : List Addr} {ps : List (Str × Str)}, TupsAt H as ps → b ∈ as → ∃ q, H b = some (.tup q)
  | a :: as, p :: ps, h, hb => by
    rcases List.mem_cons.mp hb with rfl | hb
    · exact ⟨_, h.1⟩
    · exact TupsAt.mem h.2 hb
theorem TupsAt.dp {K : PySem.W.Frag} {H : Hp} : ∀ {as : List Addr} {ps : List (Str × Str)}, TupsAt H as ps → DpAll K H (as.map V.ref) (ps.map pD)
  | [], [], _ => .nil
  | b :: as, q :: ps, h => .cons (.tup (SqT.of h.1) (.cons (.str _) (.cons (.str _) .nil))) (TupsAt.dp h.2)
theorem shaped_pairs : ∀ ps : List (Str × Str), (∀ p ∈ ps, PyData.strOk p.1 = true ∧ PyData.strOk p.2 = true) → SeqAt.shaped (.list (ps.map pD)) = true := by
  have h1 : ∀ ps : List (Str × Str), (∀ p ∈ ps, PyData.strOk p.1 = true ∧ PyData.strOk p.2 = true) → PyData.canLayAll0 (ps.map pD) = true := by
    intro ps
    induction ps with
    | nil => intro _; simp [PyData.canLayAll0]
    | cons p ps ih =>
      intro h
      obtain ⟨a, b⟩ := h p List.mem_cons_self
      simp [PyData.canLayAll0, pD, PyData.canLay0, a, b]
      exact ih fun q hq => h q (List.mem_cons_of_mem _ hq)
  have h2 : ∀ ps : List (Str × Str), PyData.depthAll (ps.map pD) ≤ 3 := by
    intro ps
    induction ps with
    | nil => simp [PyData.depthAll]
    | cons p ps ih =>
      simp [PyData.depthAll, pD, PyData.depth] at ih ⊢
      omega
  intro ps h
  have := h2 ps
  simp [SeqAt.shaped, PyData.canLay0, PyData.depth, h1 ps h]
  omega
theorem eqv_pairs : ∀ ps : List (Str × Str), PyData.eqv (.list (ps.map pD)) (.list (ps.map pD)) = true := by
  have h : ∀ ps : List (Str × Str), PyData.eqvAll (ps.map pD) (ps.map pD) = true := by
    intro ps
    induction ps with
    | nil => simp [PyData.eqvAll]
    | cons p ps ih => simp [PyData.eqvAll, pD, PyData.eqv] at ih ⊢; exact ih
  intro ps
  simp [PyData.eqv, h]
/-- the told ones so far -/
def HLs (H : Hp) (L : Addr) (ps : List (Str × Str)) : Prop := ∃ as : List Addr, H L = some (.lst (as.map V.ref)) ∧ TupsAt H as ps
theorem HLs.extN {H H' : Hp} {L : Addr} {ps : List (Str × Str)} (h : HLs H L ps) (m : LamX.ExtN H H') : HLs H' L ps := by
  obtain ⟨as, a, b⟩ := h
  exact ⟨as, m _ _ a (fun _ z => by cases z), b.keep fun _ _ e => m _ _ e (fun _ z => by cases z)⟩
/-- one more is put behind -/
theorem HLs.app {H : Hp} {L T : Addr} {ps : List (Str × Str)} {p : Str × Str} (h : HLs H L ps) (hT : H T = some (.tup [.str p.1, .str p.2])) (vs : List V) (e : H L = some (.lst vs)) :
    HLs (upd H L (.lst (vs ++ [.ref T]))) L (ps ++ [p]) := by
  obtain ⟨as, a, b⟩ := h
  rw [e] at a
  obtain rfl := HO.lst.inj (Option.some.inj a)
  refine ⟨as ++ [T], by rw [upd_same, List.map_append]; rfl, ?_⟩
  have k : ∀ a p, H a = some (.tup p) → upd H L (.lst (as.map V.ref ++ [.ref T])) a = some (.tup p) := fun a p q => upd_oth (fun z => by rw [z, e] at q; cases q) q
  exact (b.keep k).snoc (k _ _ hT)
section
variable {K : PySem.W.Frag} {mg : Str → Option Value}
theorem heard_told {tl : XK → Hp → VK → Prop} {H : Hp} {Q : VK} {v : V} {t : Str} {x tag fd : Str} (hx : (x, tag, fd) ∈ ([("BadConverter", "converter", "part"), ("BadLetter", "letter", "value"), ("NoState", "state", "value")] : List (Str × Str × Str)))
    (sh : ∀ H', LamX.ExtN H H' → Shw K H' v t) (call : ∀ (E : XK) (H' : Hp) (R : VK), Same H H' → Told mg H' E x [(fd, v)] → tl E H' R) (k : OutT [tag, t] H Q) : TTh K mg tl H Q := by
  intro H' R sm _
  refine call _ H' R sm fun dd H2 hd s2 e2 => ⟨x, dd, _, rfl, rfl, e2, ?_⟩
  have s := sm.trans s2
  have A : ShwE K H2 v t := fun H3 s3 => sh H3 (extN_same (s.trans s3))
  have B : OutT [tag, t] H2 Q := fun T H3 hT s3 e3 => k T H3 (s.free hT) (s.trans s3) e3
  simp only [List.mem_cons, Prod.mk.injEq, List.not_mem_nil, or_false] at hx
  rcases hx with ⟨rfl, rfl, rfl⟩ | ⟨rfl, rfl, rfl⟩ | ⟨rfl, rfl, rfl⟩
  · exact Or.inl <|  ⟨rfl, v, t, rfl, A, B⟩
  · exact Or.inr <| Or.inl <|  ⟨rfl, v, t, rfl, A, B⟩
  · exact Or.inr <| Or.inr <|  ⟨rfl, v, t, rfl, A, B⟩
end
theorem PtAt.but {K : PySem.W.Frag} {H H' : Hp} {p q : Addr} {s : Str} {st : List StE} {tl : List (Str × Str)} (h : PtAt K H q s st tl) (hp : ∃ xs, H p = some (.lst xs)) (m : But p H H') : PtAt K H' q s st tl := by
  obtain ⟨xs, hp⟩ := hp
  obtain ⟨d, t, h1, h2, h3, h4⟩ := h
  exact ⟨d, t, m _ (fun z => by rw [z, hp] at h1; cases h1) _ h1, h2.but hp m, m _ (fun z => by rw [z, hp] at h3; cases h3) _ h3, h4⟩
theorem PenAt.extN {H H' : Hp} {p c : Addr} {ns : List Int} {n : Nat} (h : PenAt H p c ns n) (m : LamX.ExtN H H') : PenAt H' p c ns n := by
  obtain ⟨t, g, a, b, e⟩ := h
  exact ⟨t, g, m _ _ a (fun _ z => by cases z), m _ _ b (fun _ z => by cases z), e⟩
theorem CvAt.but {K : PySem.W.Frag} {C : Addr} {H H' : Hp} {p x : Addr} {s : Str} {st : List StE} {tl : List (Str × Str)} (h : CvAt K C H x s st tl) (hp : ∃ xs, H p = some (.lst xs)) (m : But p H H') : CvAt K C H' x s st tl := by
  obtain ⟨xs, hp⟩ := hp
  have f : ∀ {b : Addr} {o : HO}, H b = some o → (∀ xs, o ≠ .lst xs) → H' b = some o := fun {b o} e n => m _ (fun z => by rw [z, hp] at e; exact n _ (Option.some.inj e).symm) _ e
  obtain ⟨dx, ss, ls, d, t, ys, zs, h1, h2, h3, h4, h5, h6, h7, h8, h9, h10⟩ := h
  exact ⟨dx, ss, ls, d, t, ys, zs, f h1 (fun _ z => by cases z), f h2 (fun _ z => by cases z), h3, h4, f h5 (fun _ z => by cases z), h6, h7, h8.but hp m, f h9 (fun _ z => by cases z), h10⟩
theorem tabs_but {T : List (Addr × Str)} {H H' : Hp} {p : Addr} {o : HO} (t : LamX.Tabs T H) (hp : H p = some o) (n1 : ∀ ps, o ≠ .tbl ps) (n2 : ∀ c q, o ≠ LamX.CodeO c q) (m : But p H H') : LamX.Tabs T H' := by
  intro r hr
  obtain ⟨ps, h1, h2, h3⟩ := t r hr
  refine ⟨ps, m _ (fun z => by rw [z, hp] at h1; exact n1 _ (Option.some.inj h1)) _ h1, h2, fun pos cv hc => ?_⟩
  obtain ⟨c, e1, e2⟩ := h3 pos cv hc
  exact ⟨c, e1, m _ (fun z => by rw [z, hp] at e2; exact n2 _ _ (Option.some.inj e2)) _ e2⟩
/-- the names under which lambdas stand -/
def tabs (PR : Addr) : List (Addr × Str) := [(PR, "_law_refused_right.<locals>.<lambda>")]
/-- how things stand -/
structure So (K : PySem.W.Frag) (mg : Str → Option Value) (PR p c x q : Addr) (ns : List Int) (G : Hp) (n : Nat) (s : Str) (st : List StE) (tl : List (Str × Str)) : Prop where
  gp : PenAt G p c ns n
  cv : CvAt K (gC mg) G x s st tl
  pt : PtAt K G q s st tl
  tb : LamX.Tabs (tabs PR) G
section
variable {K : PySem.W.Frag} {mg : Str → Option Value} {PR p c x q : Addr} {ns : List Int} {G G' : Hp} {n m : Nat} {s : Str} {st : List StE} {tl : List (Str × Str)}
theorem So.same (h : So K mg PR p c x q ns G n s st tl) (e : Same G G') : So K mg PR p c x q ns G' n s st tl := ⟨h.gp.same e, h.cv.same e, h.pt.same e, h.tb.ext e⟩
theorem So.extN (h : So K mg PR p c x q ns G n s st tl) (e : LamX.ExtN G G') (tb : LamX.Tabs (tabs PR) G') : So K mg PR p c x q ns G' n s st tl := ⟨h.gp.extN e, CvAt.extN h.cv e, PtAt.extN h.pt e, tb⟩
theorem So.draw (h : So K mg PR p c x q ns G n s st tl) (gp : PenAt G' p c ns m) (b : But p G G') : So K mg PR p c x q ns G' m s st tl := by
  obtain ⟨xs, e⟩ := h.gp.lst
  exact ⟨gp, h.cv.but h.gp.lst b, h.pt.but h.gp.lst b, tabs_but h.tb e (fun _ z => by cases z) (fun _ _ z => by cases z) b⟩
theorem So.nep (h : So K mg PR p c x q ns G n s st tl) {a : Addr} (ha : G a = none) : a ≠ p := fun z => by
  obtain ⟨xs, e⟩ := h.gp.lst
  rw [z, e] at ha
  cases ha
theorem OddW.draw {v : V} (h : OddW G v) (g : PenAt G p c ns n) (b : But p G G') : OddW G' v := by
  obtain ⟨t, q, e, _⟩ := g
  exact h.butN (.but b) ⟨_, _, _, e⟩
theorem OddW.same {v : V} (h : OddW G v) (s : Same G G') : OddW G' v := h.extN (extN_same s)
theorem KeyV.same {v : V} (h : KeyV G v) (s : Same G G') : KeyV G' v := h.extN (extN_same s)
end
end KC
namespace KC
open PySem L2 PyProof.Rows
section
variable {P : Program} {w : World} {K : PySem.W.Frag} {mg : Str → Option Value} {base : Heap}
def spRef (K : PySem.W.Frag) (mg : Str → Option Value) (PR : Addr) : Sp := fun vs H Q _ => ∃ (p c x q : Addr) (ns : List Int) (n : Nat) (s : Str) (st : List StE) (tl : List (Str × Str)), vs = [.ref p, .ref x, .ref q] ∧ PenAt H p c ns n ∧ ns.length ≤ 63 ∧ n < 900000 ∧
  CvAt K (gC mg) H x s st tl ∧ PtAt K H q s st tl ∧ OkParts s st tl ∧ ("nobody" : Str) ∉ namesOf s st tl ∧ ("" : Str) ∉ namesOf s st tl ∧ ("P" : Str) ∉ namesOf s st tl ∧ LamX.Tabs (tabs PR) H ∧ ∀ H', LamX.Tabs (tabs PR) H' → PenAt H' p c ns (n + 10) → Q (.bl true) H'
theorem kp_ref (T : Txt K mg) (TM : TxM K mg) (TH : TxH K mg) (RZ : ErrR P w K mg base) {PR : Addr} (O : OwnC K mg base "_law_refused_right" s_lrefusedright ["_law_pen_here", "_law_made", "_law_parts_here"] PR) :
    Kp P w K mg base 8 "_law_refused_right" ["_law_pen_here", "_law_made", "_law_parts_here"] (spRef K mg PR) := by
  refine O.ok sc_lrefusedright (fun vs H Q E h => ?_) (fun f c A outer s H vs Q E TB hA hr h => ?_)
  · obtain ⟨p, c, x, q, ns, n, s, st, tl, rfl, _⟩ := h
    rfl
  · obtain ⟨p, c0, x, q, ns, n, s0, st, tl, rfl, hp, hlen, hn, cv, pt, ok, no1, no2, no3, tb, k⟩ := h
    have hmT : (PR, (cxOf CX0 P w K mg base n_lrefusedright "_law_refused_right" (defScope s_lrefusedright) f (.ref c) A outer s H E).nox.env.qual ++ "<lambda>") ∈ tabs PR := List.mem_cons_self
    have huT : ∀ q ∈ tabs PR, q.1 = PR → q.2 = (cxOf CX0 P w K mg base n_lrefusedright "_law_refused_right" (defScope s_lrefusedright) f (.ref c) A outer s H E).nox.env.qual ++ "<lambda>" := by
      intro q hq e
      rcases List.mem_cons.mp hq with rfl | hq
      · rfl
      · cases hq
    refine ⟨_, (pss_cons (ps_set (i := 3) sc_lrefusedright.nd rfl (Or.inr rfl) (pe_kf (kp_pick T) hA hr (by rfl) (pa_cons (pv 0) (pa_cons (pe_lst (pa_cons (pe_non) (pa_cons (pe_int) (pa_cons (pe_str) (pa_cons (pe_tup (pa_cons (pe_str) pa_nil)) (pa_cons (pe_tup (pa_cons (pe_str) (pa_cons (pe_str) (pa_cons (pe_str) pa_nil)))) (pa_cons (pe_lst (pa_cons (pe_str) (pa_cons (pe_str) pa_nil))) (pa_cons (pe_dnewK) (pa_cons (pe_tup pa_nil) pa_nil))))))))) pa_nil))))
 (pss_cons (ps_set (i := 4) sc_lrefusedright.nd rfl (Or.inr rfl) (pe_kf (kp_pick T) hA hr (by rfl) (pa_cons (pv 0) (pa_cons (pe_lst (pa_cons (pe_non) (pa_cons (pe_int) (pa_cons (pe_str) (pa_cons (pe_str) (pa_cons (pe_tup (pa_cons (pe_str) pa_nil)) (pa_cons (pe_lst pa_nil) (pa_cons (pe_dnewK) (pa_cons (pe_bl) (pa_cons (pe_str) pa_nil)))))))))) pa_nil))))
 (pss_cons (ps_set (i := 5) sc_lrefusedright.nd rfl (Or.inr rfl) (pe_kf (kp_pick T) hA hr (by rfl) (pa_cons (pv 0) (pa_cons (pe_lst (pa_cons (pe_non) (pa_cons (pe_int) (pa_cons (pe_str) (pa_cons (pe_str) (pa_cons (pe_str) (pa_cons (pe_tup (pa_cons (pe_str) pa_nil)) (pa_cons (pe_lst pa_nil) (pa_cons (pe_dnewK) pa_nil))))))))) pa_nil))))
 (pss_cons (ps_set (i := 6) sc_lrefusedright.nd rfl (Or.inl rfl) (pe_lst (pa_cons (pe_heard (t := fun E => (tOp (rOwnIx (gC mg) (spGetX K mg) E) (tVar 1) (tVar 3))) TH hA hr (by rfl) TB rfl hmT huT (LamX.lamS_by (sc := defScope s_lrefusedright) (by decide +kernel)) (by rfl) (fun _ _ _ _ _ => by rfl) (fun A outer s H E f c' hr2 => (pe_kge (kp_getX TM RZ) hr2 (passes_call (takes_of rfl rfl rfl rfl) (fun _ _ _ _ h => h)) (pv 1) (pv 3)))) pa_nil)))
 (pss_cons (ps_expr (pe_bm PySem.F.plainAttrs_list PySem.F.slot_list_append PySem.F.type_list_append mt_append (pv 6) (pa_cons (pe_heard (t := fun E => (tOp (rOwnIx (gC mg) (spGetX K mg) E) (tVar 1) (tTup (tCons (tVar 4) (tCons (tVar 5) tNil))))) TH hA hr (by rfl) TB rfl hmT huT (LamX.lamS_by (sc := defScope s_lrefusedright) (by decide +kernel)) (by rfl) (fun _ _ _ _ _ => by rfl) (fun A outer s H E f c' hr2 => (pe_kge (kp_getX TM RZ) hr2 (passes_call (takes_of rfl rfl rfl rfl) (fun _ _ _ _ h => h)) (pv 1) (pe_tup (pa_cons (pv 4) (pa_cons (pv 5) pa_nil)))))) pa_nil)))
 (pss_cons (ps_expr (pe_bm PySem.F.plainAttrs_list PySem.F.slot_list_append PySem.F.type_list_append mt_append (pv 6) (pa_cons (pe_heard (t := fun E => (tOp (rOwnIx (gC mg) (spGetX K mg) E) (tVar 1) (tTup (tCons (tOp (rIxT K) (tVar 2) (tC (.int 0))) (tCons (tVar 5) tNil))))) TH hA hr (by rfl) TB rfl hmT huT (LamX.lamS_by (sc := defScope s_lrefusedright) (by decide +kernel)) (by rfl) (fun _ _ _ _ _ => by rfl) (fun A outer s H E f c' hr2 => (pe_kge (kp_getX TM RZ) hr2 (passes_call (takes_of rfl rfl rfl rfl) (fun _ _ _ _ h => h)) (pv 1) (pe_tup (pa_cons (pe_ix (ix_tup : IxR _ (rIxT K)) (pv 2) (pe_int) (fun _ _ => rfl)) (pa_cons (pv 5) pa_nil)))))) pa_nil)))
 (pss_cons (ps_expr (pe_bm PySem.F.plainAttrs_list PySem.F.slot_list_append PySem.F.type_list_append mt_append (pv 6) (pa_cons (pe_heard (t := fun E => (tMeth (gC mg) "tail" (spTlX K mg) [] E (tVar 1) (tCons (tVar 4) tNil))) TH hA hr (by rfl) TB rfl hmT huT (LamX.lamS_by (sc := defScope s_lrefusedright) (by decide +kernel)) (by rfl) (fun _ _ _ _ _ => by rfl) (fun A outer s H E f c' hr2 => (pe_kmx (kp_tlX TM RZ) TM.C.cls hr2 (passes_call (takes_of rfl rfl rfl rfl) (fun _ _ _ _ h => h)) (pv 1) (pa_cons (pv 4) pa_nil)))) pa_nil)))
 (pss_cons (ps_set (i := 7) sc_lrefusedright.nd rfl (Or.inl rfl) (pe_lst (pa_cons (pe_tup (pa_cons (pe_str) (pa_cons (pe_str) pa_nil))) (pa_cons (pe_tup (pa_cons (pe_str) (pa_cons (pe_callB (call_reprV hA hr.units) (by rfl) (T.nb _ (by decide)) (by decide +kernel) (pa_cons (pv 4) pa_nil)) pa_nil))) (pa_cons (pe_tup (pa_cons (pe_str) (pa_cons (pe_callB (call_reprV hA hr.units) (by rfl) (T.nb _ (by decide)) (by decide +kernel) (pa_cons (pv 5) pa_nil)) pa_nil))) (pa_cons (pe_tup (pa_cons (pe_str) (pa_cons (pe_callB (call_reprV hA hr.units) (by rfl) (T.nb _ (by decide)) (by decide +kernel) (pa_cons (pv 4) pa_nil)) pa_nil))) pa_nil))))))
 (pss_one (ps_ret ((pe_and (pe_cmpR (op_eqD hr.units : OpR _ _ (rEqD K)) (pv 6) (pv 7) (nomark _)) (pe_one (pe_cmpR (op_eqD hr.units : OpR _ _ (rEqD K)) (pe_lc (own := [("_law_one", 8)]) (g := gName 8) rfl sc_lrefusedright.nd (pi_list (pe_lst (pa_cons (pv 5) (pa_cons (pv 4) (pa_cons (pe_non) (pa_cons (pe_int) (pa_cons (pe_tup (pa_cons (pe_str) pa_nil)) (pa_cons (pe_dnewK) pa_nil)))))))) (blkOk_by (N := n_lrefusedright) (sc := defScope s_lrefusedright) (by decide +kernel)) (fun _ _ _ _ _ => pg_name (i := 8) sc_lrefusedright.nd rfl (Or.inl rfl)) (fun _ _ _ _ _ => (pts_one (pt_cmpR (op_inO (ka_cont TM) hr) (pv 8) (pv 1) rfl))) (fun _ _ _ _ _ => (pv 8))) (pe_lst pa_nil) (nomark _))))))))))))))), ?_⟩
    have S0 : So K mg PR p c0 x q ns H n s0 st tl := ⟨hp, cv, pt, tb⟩
    refine ⟨_, rfl, ⟨(by show 1 ≤ sizeLine; decide), fun ak3 hak3 => ⟨(by show 3 ≤ sizeLine; decide), fun ak4 hak4 => ⟨(by show 2 ≤ sizeLine; decide), fun ak5 hak5 => fun ak6 hak6 => ⟨(by show 0 ≤ sizeLine; decide), fun ak7 hak7 => ⟨(by show 8 ≤ sizeLine; decide), fun Lk hLk => ?_⟩⟩⟩⟩⟩⟩
    have nak3 : ak3 ≠ p := S0.nep hak3
    have sG1 : Same H (upd H ak3 (.tup [.str "p"])) := Same.new hak3
    have gak3 : upd H ak3 (.tup [.str "p"]) ak3 = some (.tup [.str "p"]) := upd_same
    have SG1 := S0.same sG1
    generalize upd H ak3 (.tup [.str "p"]) = G1 at sG1 gak3 SG1   hak4 hak5 hak6 hak7 hLk ⊢
    have nak4 : ak4 ≠ p := SG1.nep hak4
    have sG2 : Same G1 (upd G1 ak4 (.tup [.str "p", .str "a", .str "b"])) := Same.new hak4
    have gak4 : upd G1 ak4 (.tup [.str "p", .str "a", .str "b"]) ak4 = some (.tup [.str "p", .str "a", .str "b"]) := upd_same
    have gak3 := sG2 _ _ gak3
    have SG2 := SG1.same sG2
    generalize upd G1 ak4 (.tup [.str "p", .str "a", .str "b"]) = G2 at sG2 gak4 SG2 gak3  hak5 hak6 hak7 hLk ⊢
    have nak5 : ak5 ≠ p := SG2.nep hak5
    have sG3 : Same G2 (upd G2 ak5 (.lst [.str "p", .str "a"])) := Same.new hak5
    have gak5 : upd G2 ak5 (.lst [.str "p", .str "a"]) ak5 = some (.lst [.str "p", .str "a"]) := upd_same
    have gak3 := sG3 _ _ gak3
    have gak4 := sG3 _ _ gak4
    have SG3 := SG2.same sG3
    generalize upd G2 ak5 (.lst [.str "p", .str "a"]) = G3 at sG3 gak5 SG3 gak3 gak4  hak6 hak7 hLk ⊢
    have nak6 : ak6 ≠ p := SG3.nep hak6
    have sG4 : Same G3 (upd G3 ak6 (.dK [])) := Same.new hak6
    have gak6 : upd G3 ak6 (.dK []) ak6 = some (.dK []) := upd_same
    have gak3 := sG4 _ _ gak3
    have gak4 := sG4 _ _ gak4
    have gak5 := sG4 _ _ gak5
    have SG4 := SG3.same sG4
    generalize upd G3 ak6 (.dK []) = G4 at sG4 gak6 SG4 gak3 gak4 gak5  hak7 hLk ⊢
    have nak7 : ak7 ≠ p := SG4.nep hak7
    have sG5 : Same G4 (upd G4 ak7 (.tup [])) := Same.new hak7
    have gak7 : upd G4 ak7 (.tup []) ak7 = some (.tup []) := upd_same
    have gak3 := sG5 _ _ gak3
    have gak4 := sG5 _ _ gak4
    have gak5 := sG5 _ _ gak5
    have gak6 := sG5 _ _ gak6
    have SG5 := SG4.same sG5
    generalize upd G4 ak7 (.tup []) = G5 at sG5 gak7 SG5 gak3 gak4 gak5 gak6  hLk ⊢
    have nLk : Lk ≠ p := SG5.nep hLk
    have sG6 : Same G5 (upd G5 Lk (.lst [.non, .int 0, .str "p", .ref ak3, .ref ak4, .ref ak5, .ref ak6, .ref ak7])) := Same.new hLk
    have gLk : upd G5 Lk (.lst [.non, .int 0, .str "p", .ref ak3, .ref ak4, .ref ak5, .ref ak6, .ref ak7]) Lk = some (.lst [.non, .int 0, .str "p", .ref ak3, .ref ak4, .ref ak5, .ref ak6, .ref ak7]) := upd_same
    have gak3 := sG6 _ _ gak3
    have gak4 := sG6 _ _ gak4
    have gak5 := sG6 _ _ gak5
    have gak6 := sG6 _ _ gak6
    have gak7 := sG6 _ _ gak7
    have SG6 := SG5.same sG6
    generalize upd G5 Lk (.lst [.non, .int 0, .str "p", .ref ak3, .ref ak4, .ref ak5, .ref ak6, .ref ak7]) = G6 at sG6 gLk SG6 gak3 gak4 gak5 gak6 gak7   ⊢
    refine ⟨p, c0, Lk, _, ns, _, rfl, SG6.gp, hlen, gLk, nLk, (by show 0 < 8; decide), (by show 8 < 1000000; decide), by omega, fun vk G7 hvk gpG7 bG7 => ?_⟩
    have SG7 := SG6.draw gpG7 bG7
    have Ok2 : KeyV G7 vk ∧ ∀ a, vk = .ref a → a ≠ p := by
      simp only [List.mem_cons, List.not_mem_nil, or_false] at hvk
      rcases hvk with rfl | rfl | rfl | rfl | rfl | rfl | rfl | rfl
      · exact ⟨.inl rfl, fun a e => by cases e⟩
      · exact ⟨.inr (.inl ⟨_, rfl⟩), fun a e => by cases e⟩
      · exact ⟨.inr (.inr (.inl ⟨_, rfl⟩)), fun a e => by cases e⟩
      · exact ⟨.inr (.inr (.inr (.inr (.inl ⟨_, _, rfl, by decide, bG7 ak3 nak3 _ gak3⟩)))), fun a e => by rw [← V.ref.inj e]; exact nak3⟩
      · exact ⟨.inr (.inr (.inr (.inr (.inl ⟨_, _, rfl, by decide, bG7 ak4 nak4 _ gak4⟩)))), fun a e => by rw [← V.ref.inj e]; exact nak4⟩
      · exact ⟨.inr (.inr (.inr (.inl ⟨_, _, rfl, bG7 ak5 nak5 _ gak5⟩))), fun a e => by rw [← V.ref.inj e]; exact nak5⟩
      · exact ⟨.inr (.inr (.inr (.inr (.inr ⟨_, rfl, bG7 ak6 nak6 _ gak6⟩)))), fun a e => by rw [← V.ref.inj e]; exact nak6⟩
      · exact ⟨.inr (.inr (.inr (.inr (.inl ⟨_, _, rfl, by decide, bG7 ak7 nak7 _ gak7⟩)))), fun a e => by rw [← V.ref.inj e]; exact nak7⟩
    obtain ⟨Ok, nk⟩ := Ok2
    dsimp only [gName]
    refine ⟨_, rfl, ⟨(by show 1 ≤ sizeLine; decide), fun ao4 hao4 => ⟨(by show 0 ≤ sizeLine; decide), fun ao5 hao5 => fun ao6 hao6 => ⟨(by show 9 ≤ sizeLine; decide), fun Lo hLo => ?_⟩⟩⟩⟩
    have nao4 : ao4 ≠ p := SG7.nep hao4
    have sG8 : Same G7 (upd G7 ao4 (.tup [.str "p"])) := Same.new hao4
    have gao4 : upd G7 ao4 (.tup [.str "p"]) ao4 = some (.tup [.str "p"]) := upd_same
    have SG8 := SG7.same sG8
    have Ok := Ok.same sG8
    generalize upd G7 ao4 (.tup [.str "p"]) = G8 at sG8 gao4 SG8  Ok hao5 hao6 hLo ⊢
    have nao5 : ao5 ≠ p := SG8.nep hao5
    have sG9 : Same G8 (upd G8 ao5 (.lst [])) := Same.new hao5
    have gao5 : upd G8 ao5 (.lst []) ao5 = some (.lst []) := upd_same
    have gao4 := sG9 _ _ gao4
    have SG9 := SG8.same sG9
    have Ok := Ok.same sG9
    generalize upd G8 ao5 (.lst []) = G9 at sG9 gao5 SG9 gao4 Ok hao6 hLo ⊢
    have nao6 : ao6 ≠ p := SG9.nep hao6
    have sG10 : Same G9 (upd G9 ao6 (.dK [])) := Same.new hao6
    have gao6 : upd G9 ao6 (.dK []) ao6 = some (.dK []) := upd_same
    have gao4 := sG10 _ _ gao4
    have gao5 := sG10 _ _ gao5
    have SG10 := SG9.same sG10
    have Ok := Ok.same sG10
    generalize upd G9 ao6 (.dK []) = G10 at sG10 gao6 SG10 gao4 gao5 Ok hLo ⊢
    have nLo : Lo ≠ p := SG10.nep hLo
    have sG11 : Same G10 (upd G10 Lo (.lst [.non, .int 0, .str "", .str "nobody", .ref ao4, .ref ao5, .ref ao6, .bl true, .str "P"])) := Same.new hLo
    have gLo : upd G10 Lo (.lst [.non, .int 0, .str "", .str "nobody", .ref ao4, .ref ao5, .ref ao6, .bl true, .str "P"]) Lo = some (.lst [.non, .int 0, .str "", .str "nobody", .ref ao4, .ref ao5, .ref ao6, .bl true, .str "P"]) := upd_same
    have gao4 := sG11 _ _ gao4
    have gao5 := sG11 _ _ gao5
    have gao6 := sG11 _ _ gao6
    have SG11 := SG10.same sG11
    have Ok := Ok.same sG11
    generalize upd G10 Lo (.lst [.non, .int 0, .str "", .str "nobody", .ref ao4, .ref ao5, .ref ao6, .bl true, .str "P"]) = G11 at sG11 gLo SG11 gao4 gao5 gao6 Ok  ⊢
    refine ⟨p, c0, Lo, _, ns, _, rfl, SG11.gp, hlen, gLo, nLo, (by show 0 < 9; decide), (by show 9 < 1000000; decide), by omega, fun vo G12 hvo gpG12 bG12 => ?_⟩
    have SG12 := SG11.draw gpG12 bG12
    have Ok := Ok.but bG12 nk
    have Oo2 : OddW G12 vo ∧ ∀ z, vo = .str z → z ∉ namesOf s0 st tl := by
      simp only [List.mem_cons, List.not_mem_nil, or_false] at hvo
      rcases hvo with rfl | rfl | rfl | rfl | rfl | rfl | rfl | rfl | rfl
      · exact ⟨.inl rfl, fun z e => by cases e⟩
      · exact ⟨.inr (.inr (.inl ⟨0, rfl, by decide, by decide⟩)), fun z e => by cases e⟩
      · exact ⟨.inr (.inr (.inr (.inl ⟨_, rfl, by decide +kernel⟩))), fun z e => by rw [← V.str.inj e]; assumption⟩
      · exact ⟨.inr (.inr (.inr (.inl ⟨_, rfl, by decide +kernel⟩))), fun z e => by rw [← V.str.inj e]; assumption⟩
      · exact ⟨.inr (.inr (.inr (.inr (.inr (.inl ⟨_, (["p"] : List Str), rfl, by decide +kernel, bG12 ao4 nao4 _ gao4⟩))))), fun z e => by cases e⟩
      · exact ⟨.inr (.inr (.inr (.inr (.inl ⟨_, ([] : List Str), rfl, by decide +kernel, bG12 ao5 nao5 _ gao5⟩)))), fun z e => by cases e⟩
      · exact ⟨.inr (.inr (.inr (.inr (.inr (.inr ⟨_, rfl, bG12 ao6 nao6 _ gao6⟩))))), fun z e => by cases e⟩
      · exact ⟨.inr (.inl ⟨_, rfl⟩), fun z e => by cases e⟩
      · exact ⟨.inr (.inr (.inr (.inl ⟨_, rfl, by decide +kernel⟩))), fun z e => by rw [← V.str.inj e]; assumption⟩
    obtain ⟨Oo, noo⟩ := Oo2
    dsimp only [gName]
    refine ⟨_, rfl, ⟨(by show 1 ≤ sizeLine; decide), fun ab5 hab5 => ⟨(by show 0 ≤ sizeLine; decide), fun ab6 hab6 => fun ab7 hab7 => ⟨(by show 8 ≤ sizeLine; decide), fun Lb hLb => ?_⟩⟩⟩⟩
    have nab5 : ab5 ≠ p := SG12.nep hab5
    have sG13 : Same G12 (upd G12 ab5 (.tup [.str "a"])) := Same.new hab5
    have gab5 : upd G12 ab5 (.tup [.str "a"]) ab5 = some (.tup [.str "a"]) := upd_same
    have SG13 := SG12.same sG13
    have Ok := Ok.same sG13
    have Oo := Oo.same sG13
    generalize upd G12 ab5 (.tup [.str "a"]) = G13 at sG13 gab5 SG13  Ok Oo hab6 hab7 hLb ⊢
    have nab6 : ab6 ≠ p := SG13.nep hab6
    have sG14 : Same G13 (upd G13 ab6 (.lst [])) := Same.new hab6
    have gab6 : upd G13 ab6 (.lst []) ab6 = some (.lst []) := upd_same
    have gab5 := sG14 _ _ gab5
    have SG14 := SG13.same sG14
    have Ok := Ok.same sG14
    have Oo := Oo.same sG14
    generalize upd G13 ab6 (.lst []) = G14 at sG14 gab6 SG14 gab5 Ok Oo hab7 hLb ⊢
    have nab7 : ab7 ≠ p := SG14.nep hab7
    have sG15 : Same G14 (upd G14 ab7 (.dK [])) := Same.new hab7
    have gab7 : upd G14 ab7 (.dK []) ab7 = some (.dK []) := upd_same
    have gab5 := sG15 _ _ gab5
    have gab6 := sG15 _ _ gab6
    have SG15 := SG14.same sG15
    have Ok := Ok.same sG15
    have Oo := Oo.same sG15
    generalize upd G14 ab7 (.dK []) = G15 at sG15 gab7 SG15 gab5 gab6 Ok Oo hLb ⊢
    have nLb : Lb ≠ p := SG15.nep hLb
    have sG16 : Same G15 (upd G15 Lb (.lst [.non, .int 1, .str "", .str "ab", .str "A", .ref ab5, .ref ab6, .ref ab7])) := Same.new hLb
    have gLb : upd G15 Lb (.lst [.non, .int 1, .str "", .str "ab", .str "A", .ref ab5, .ref ab6, .ref ab7]) Lb = some (.lst [.non, .int 1, .str "", .str "ab", .str "A", .ref ab5, .ref ab6, .ref ab7]) := upd_same
    have gab5 := sG16 _ _ gab5
    have gab6 := sG16 _ _ gab6
    have gab7 := sG16 _ _ gab7
    have SG16 := SG15.same sG16
    have Ok := Ok.same sG16
    have Oo := Oo.same sG16
    generalize upd G15 Lb (.lst [.non, .int 1, .str "", .str "ab", .str "A", .ref ab5, .ref ab6, .ref ab7]) = G16 at sG16 gLb SG16 gab5 gab6 gab7 Ok Oo  ⊢
    refine ⟨p, c0, Lb, _, ns, _, rfl, SG16.gp, hlen, gLb, nLb, (by show 0 < 8; decide), (by show 8 < 1000000; decide), by omega, fun vb G17 hvb gpG17 bG17 => ?_⟩
    have SG17 := SG16.draw gpG17 bG17
    have Ok := Ok.but bG17 nk
    have Oo := Oo.draw SG16.gp bG17
    have Ob2 : OddW G17 vb ∧ ∀ z, vb = .str z → okL 1 1 z = false := by
      simp only [List.mem_cons, List.not_mem_nil, or_false] at hvb
      rcases hvb with rfl | rfl | rfl | rfl | rfl | rfl | rfl | rfl
      · exact ⟨.inl rfl, fun z e => by cases e⟩
      · exact ⟨.inr (.inr (.inl ⟨1, rfl, by decide, by decide⟩)), fun z e => by cases e⟩
      · exact ⟨.inr (.inr (.inr (.inl ⟨_, rfl, by decide +kernel⟩))), fun z e => by rw [← V.str.inj e]; decide +kernel⟩
      · exact ⟨.inr (.inr (.inr (.inl ⟨_, rfl, by decide +kernel⟩))), fun z e => by rw [← V.str.inj e]; decide +kernel⟩
      · exact ⟨.inr (.inr (.inr (.inl ⟨_, rfl, by decide +kernel⟩))), fun z e => by rw [← V.str.inj e]; decide +kernel⟩
      · exact ⟨.inr (.inr (.inr (.inr (.inr (.inl ⟨_, (["a"] : List Str), rfl, by decide +kernel, bG17 ab5 nab5 _ gab5⟩))))), fun z e => by cases e⟩
      · exact ⟨.inr (.inr (.inr (.inr (.inl ⟨_, ([] : List Str), rfl, by decide +kernel, bG17 ab6 nab6 _ gab6⟩)))), fun z e => by cases e⟩
      · exact ⟨.inr (.inr (.inr (.inr (.inr (.inr ⟨_, rfl, bG17 ab7 nab7 _ gab7⟩))))), fun z e => by cases e⟩
    obtain ⟨Ob, nob⟩ := Ob2
    dsimp only [gName]
    have S9 := SG17
    have hk9 : ∀ H', LamX.Tabs (tabs PR) H' → PenAt H' p c0 ns (n + 10) → Q (.bl true) H' := k
    clear SG1 SG2 SG3 SG4 SG5 SG6 SG7 SG8 SG9 SG10 SG11 SG12 SG13 SG14 SG15 SG16 SG17 hp cv pt tb S0
    generalize G17 = G at S9 Ok Oo Ob
    obtain ⟨to_, oko, sho⟩ := Oo.shw (K := K)
    obtain ⟨tb_, okb, shb⟩ := Ob.shw (K := K)
    have shk : ∀ H', LamX.ExtN G H' → Shw K H' (.str "key") "'key'" := fun H' _ => by
      have := shw_name (K := K) (H := H') (lo := 0) (hi := 10) (x := "key") (by decide +kernel) (by decide)
      rwa [show reprText "key" = "'key'" by decide +kernel] at this
    -- call 1
    refine ⟨S9.tb, fun Ka ma tba => ?_⟩
    have Sa := S9.extN ma tba
    have na := ma
    refine heard_told (v := .str "key") (t := "'key'") (show ((("BadConverter", "converter", "part") : Str × Str × Str)) ∈ _ from by decide) (fun H' m' => shk H' (na.trans m')) (fun E H' R s told => ?_) ?_
    · have cvE := Sa.cv.same s
      obtain ⟨dq, tq, hq, _⟩ := Sa.pt.same s
      have mm := na.trans (extN_same s)
      obtain ⟨dx, _, _, _, _, _, _, c1, _⟩ := id cvE
      exact ⟨_, rfl, _, rfl, x, dx, _, rfl, c1, x, vk, s0, st, tl, rfl, cvE, .inl ⟨(Ok.extN mm).no, told⟩⟩
    intro T1 Kb hT1 sb eb
    refine ⟨(by show 1 ≤ sizeLine; decide), fun L hL => ?_⟩
    have mK := na.trans (extN_same sb)
    have sL : Same Kb (upd Kb L (.lst [.ref T1])) := Same.new hL
    have hs : HLs (upd Kb L (.lst [.ref T1])) L [("converter", "'key'")] := ⟨[T1], upd_same, sL _ _ eb, True.intro⟩
    have S := (Sa.same sb).same sL
    have m := mK.trans (extN_same sL)
    generalize upd Kb L (.lst [.ref T1]) = Kc at hs S m
    clear Sa na ma tba eb
    have hLK := hL
    have mK0 := mK
    clear hL sb mK
    -- call 2
    obtain ⟨as, gL, hTs⟩ := id hs
    refine ⟨_, rfl, .inl ⟨rfl, _, SqL.of gL⟩, ⟨S.tb, fun Ka ma tba => ?_⟩⟩
    have Sa := S.extN ma tba
    have na := m.trans ma
    refine heard_told (v := vo) (t := to_) (show ((("NoState", "state", "value") : Str × Str × Str)) ∈ _ from by decide) (fun H' m' => sho H' (na.trans m')) (fun E H' R s told => ?_) ?_
    · have cvE := Sa.cv.same s
      obtain ⟨dq, tq, hq, _⟩ := Sa.pt.same s
      have mm := na.trans (extN_same s)
      obtain ⟨dx, _, _, _, _, _, _, c1, _⟩ := id cvE
      refine ⟨_, rfl, _, rfl, _, rfl, (by show 2 ≤ sizeLine; decide), fun kt hkt => ?_⟩
      have s9 : Same H' (upd H' kt (.tup [vo, vb])) := Same.new hkt
      exact ⟨x, dx, _, rfl, s9 _ _ c1, x, .ref kt, s0, st, tl, rfl, cvE.same s9, .inr ⟨kt, vo, vb, rfl, SqT.of upd_same, .inl ⟨((Oo.extN mm).same s9).nost noo, told.same s9⟩⟩⟩
    intro T1 Kb hT1 sb eb
    have mb := ma.trans (extN_same sb)
    have gLb := mb _ _ gL (fun _ z => by cases z)
    refine ⟨L, as.map V.ref, .ref T1, rfl, rfl, gLb, ?_, ?_⟩
    · rw [List.length_map, hTs.len]
      show 1 < sizeLine
      decide
    have hs := (hs.extN mb).app (p := ("state", to_)) eb _ gLb
    have mN : LamX.ExtN G (upd Kb L (.lst (as.map V.ref ++ [.ref T1]))) := extN_over mK0 hLK (m.trans mb)
    have tbN : LamX.Tabs (tabs PR) (upd Kb L (.lst (as.map V.ref ++ [.ref T1]))) := tabs_updL (Sa.same sb).tb gLb
    have S := S9.extN mN tbN
    have m := mN
    generalize upd Kb L (.lst (as.map V.ref ++ [.ref T1])) = Kc at hs S m
    clear Sa na ma tba eb mb gLb mN tbN hTs gL as hT1 sb
    -- call 3
    obtain ⟨as, gL, hTs⟩ := id hs
    refine ⟨_, rfl, .inl ⟨rfl, _, SqL.of gL⟩, ⟨S.tb, fun Ka ma tba => ?_⟩⟩
    have Sa := S.extN ma tba
    have na := m.trans ma
    refine heard_told (v := vb) (t := tb_) (show ((("BadLetter", "letter", "value") : Str × Str × Str)) ∈ _ from by decide) (fun H' m' => shb H' (na.trans m')) (fun E H' R s told => ?_) ?_
    · have cvE := Sa.cv.same s
      obtain ⟨dq, tq, hq, _⟩ := Sa.pt.same s
      have mm := na.trans (extN_same s)
      obtain ⟨dx, _, _, _, _, _, _, c1, _⟩ := id cvE
      refine ⟨_, rfl, _, rfl, q, _, 0, _, rfl, rfl, SqT.of hq, rfl, _, rfl, (by show 2 ≤ sizeLine; decide), fun kt hkt => ?_⟩
      have s9 : Same H' (upd H' kt (.tup [.str s0, vb])) := Same.new hkt
      exact ⟨x, dx, _, rfl, s9 _ _ c1, x, .ref kt, s0, st, tl, rfl, cvE.same s9, .inr ⟨kt, .str s0, vb, rfl, SqT.of upd_same, .inr ⟨s0, rfl, names_start s0 st tl, ((Ob.extN mm).same s9).bad nob, told.same s9⟩⟩⟩
    intro T1 Kb hT1 sb eb
    have mb := ma.trans (extN_same sb)
    have gLb := mb _ _ gL (fun _ z => by cases z)
    refine ⟨L, as.map V.ref, .ref T1, rfl, rfl, gLb, ?_, ?_⟩
    · rw [List.length_map, hTs.len]
      show 2 < sizeLine
      decide
    have hs := (hs.extN mb).app (p := ("letter", tb_)) eb _ gLb
    have mN : LamX.ExtN G (upd Kb L (.lst (as.map V.ref ++ [.ref T1]))) := extN_over mK0 hLK (m.trans mb)
    have tbN : LamX.Tabs (tabs PR) (upd Kb L (.lst (as.map V.ref ++ [.ref T1]))) := tabs_updL (Sa.same sb).tb gLb
    have S := S9.extN mN tbN
    have m := mN
    generalize upd Kb L (.lst (as.map V.ref ++ [.ref T1])) = Kc at hs S m
    clear Sa na ma tba eb mb gLb mN tbN hTs gL as hT1 sb
    -- call 4
    obtain ⟨as, gL, hTs⟩ := id hs
    refine ⟨_, rfl, .inl ⟨rfl, _, SqL.of gL⟩, ⟨S.tb, fun Ka ma tba => ?_⟩⟩
    have Sa := S.extN ma tba
    have na := m.trans ma
    refine heard_told (v := vo) (t := to_) (show ((("NoState", "state", "value") : Str × Str × Str)) ∈ _ from by decide) (fun H' m' => sho H' (na.trans m')) (fun E H' R s told => ?_) ?_
    · have cvE := Sa.cv.same s
      obtain ⟨dq, tq, hq, _⟩ := Sa.pt.same s
      have mm := na.trans (extN_same s)
      obtain ⟨dx, _, _, _, _, _, _, c1, _⟩ := id cvE
      exact ⟨_, rfl, x, dx, _, rfl, c1, rfl, _, rfl, x, vo, s0, st, tl, rfl, cvE, (Oo.extN mm).nost noo, told⟩
    intro T1 Kb hT1 sb eb
    have mb := ma.trans (extN_same sb)
    have gLb := mb _ _ gL (fun _ z => by cases z)
    refine ⟨L, as.map V.ref, .ref T1, rfl, rfl, gLb, ?_, ?_⟩
    · rw [List.length_map, hTs.len]
      show 3 < sizeLine
      decide
    have hs := (hs.extN mb).app (p := ("state", to_)) eb _ gLb
    have mN : LamX.ExtN G (upd Kb L (.lst (as.map V.ref ++ [.ref T1]))) := extN_over mK0 hLK (m.trans mb)
    have tbN : LamX.Tabs (tabs PR) (upd Kb L (.lst (as.map V.ref ++ [.ref T1]))) := tabs_updL (Sa.same sb).tb gLb
    have S := S9.extN mN tbN
    have m := mN
    generalize upd Kb L (.lst (as.map V.ref ++ [.ref T1])) = Kc at hs S m
    clear Sa na ma tba eb mb gLb mN tbN hTs gL as hT1 sb
    -- what is due
    refine ⟨(by show 2 ≤ sizeLine; decide), fun t1 ht1 => ?_⟩
    have e1 : Same Kc (upd Kc t1 (.tup [.str "converter", .str "'key'"])) := Same.new ht1
    have g1 : upd Kc t1 (.tup [.str "converter", .str "'key'"]) t1 = some (.tup [.str "converter", .str "'key'"]) := upd_same
    generalize upd Kc t1 (.tup [.str "converter", .str "'key'"]) = K1 at e1 g1 ⊢
    refine ⟨_, rfl, vo, to_, rfl, sho _ (m.trans (extN_same e1)), (by show 2 ≤ sizeLine; decide), fun t2 ht2 => ?_⟩
    have e2 : Same K1 (upd K1 t2 (.tup [.str "state", .str to_])) := Same.new ht2
    have g2 : upd K1 t2 (.tup [.str "state", .str to_]) t2 = some (.tup [.str "state", .str to_]) := upd_same
    have g1 := e2 _ _ g1
    have e12 := e1.trans e2
    generalize upd K1 t2 (.tup [.str "state", .str to_]) = K2 at e12 e2 g1 g2 ⊢
    refine ⟨_, rfl, vb, tb_, rfl, shb _ (m.trans (extN_same e12)), (by show 2 ≤ sizeLine; decide), fun t3 ht3 => ?_⟩
    have e3 : Same K2 (upd K2 t3 (.tup [.str "letter", .str tb_])) := Same.new ht3
    have g3 : upd K2 t3 (.tup [.str "letter", .str tb_]) t3 = some (.tup [.str "letter", .str tb_]) := upd_same
    have g1 := e3 _ _ g1
    have g2 := e3 _ _ g2
    have e13 := e12.trans e3
    generalize upd K2 t3 (.tup [.str "letter", .str tb_]) = K3 at e13 e3 g1 g2 g3 ⊢
    refine ⟨_, rfl, vo, to_, rfl, sho _ (m.trans (extN_same e13)), (by show 2 ≤ sizeLine; decide), fun t4 ht4 => ?_⟩
    have e4 : Same K3 (upd K3 t4 (.tup [.str "state", .str to_])) := Same.new ht4
    have g4 : upd K3 t4 (.tup [.str "state", .str to_]) t4 = some (.tup [.str "state", .str to_]) := upd_same
    have g1 := e4 _ _ g1
    have g2 := e4 _ _ g2
    have g3 := e4 _ _ g3
    have e14 := e13.trans e4
    generalize upd K3 t4 (.tup [.str "state", .str to_]) = K4 at e14 e4 g1 g2 g3 g4 ⊢
    refine ⟨(by show 4 ≤ sizeLine; decide), fun D hD => ?_⟩
    have e5 : Same K4 (upd K4 D (.lst ([t1, t2, t3, t4].map V.ref))) := Same.new hD
    have gD : upd K4 D (.lst ([t1, t2, t3, t4].map V.ref)) D = some (.lst ([t1, t2, t3, t4].map V.ref)) := upd_same
    have tu : TupsAt (upd K4 D (.lst ([t1, t2, t3, t4].map V.ref))) [t1, t2, t3, t4] [("converter", "'key'"), ("state", to_), ("letter", tb_), ("state", to_)] := ⟨e5 _ _ g1, e5 _ _ g2, e5 _ _ g3, e5 _ _ g4, True.intro⟩
    have e15 := e14.trans e5
    dsimp only [gName]
    change tRet _ _ _ (upd K4 D (.lst ([t1, t2, t3, t4].map V.ref)))
    generalize upd K4 D (.lst ([t1, t2, t3, t4].map V.ref)) = K5 at e15 gD tu ⊢
    obtain ⟨as, gL, hTs⟩ := hs.extN (extN_same e15)
    have okp : ∀ p ∈ ([("converter", "'key'"), ("state", to_), ("letter", tb_), ("state", to_)] : List (Str × Str)), PyData.strOk p.1 = true ∧ PyData.strOk p.2 = true := by
      intro p hp
      simp only [List.mem_cons, List.not_mem_nil, or_false] at hp
      rcases hp with rfl | rfl | rfl | rfl
      · exact ⟨by decide +kernel, by decide +kernel⟩
      · exact ⟨(by decide +kernel : PyData.strOk ("state" : Str) = true), oko⟩
      · exact ⟨(by decide +kernel : PyData.strOk ("letter" : Str) = true), okb⟩
      · exact ⟨(by decide +kernel : PyData.strOk ("state" : Str) = true), oko⟩
    refine ⟨_, rfl, _, rfl, _, _, .lst (SqL.of gL) hTs.dp, .lst (SqL.of gD) tu.dp, shaped_pairs _ okp, shaped_pairs _ okp, ?_⟩
    have ev := eqv_pairs [("converter", "'key'"), ("state", to_), ("letter", tb_), ("state", to_)]
    refine ⟨_, rfl, (show (if PyData.eqv _ _ = true then _ else _) from ?_)⟩
    refine (show ∀ b : Bool, b = true → ∀ A B : Prop, A → if b = true then A else B from fun b hb A B h => by rw [hb]; exact iteT h) _ ev _ _ ?_
    -- none of these is in it
    refine ⟨_, rfl, _, rfl, (by show 1 ≤ sizeLine; decide), fun a5 ha5 => ?_⟩
    have f1 : Same K5 (upd K5 a5 (.tup [.str "a"])) := Same.new ha5
    have h5 : upd K5 a5 (.tup [.str "a"]) a5 = some (.tup [.str "a"]) := upd_same
    generalize upd K5 a5 (.tup [.str "a"]) = K6 at f1 h5 ⊢
    refine fun a6 ha6 => ?_
    have f2 : Same K6 (upd K6 a6 (.dK [])) := Same.new ha6
    have h6 : upd K6 a6 (.dK []) a6 = some (.dK []) := upd_same
    have h5 := f2 _ _ h5
    generalize upd K6 a6 (.dK []) = K7 at f2 h5 h6 ⊢
    refine ⟨(by show 6 ≤ sizeLine; decide), fun W hW => ?_⟩
    have f3 : Same K7 (upd K7 W (.lst [vb, vo, .non, .int 0, .ref a5, .ref a6])) := Same.new hW
    have gW : upd K7 W (.lst [vb, vo, .non, .int 0, .ref a5, .ref a6]) W = some (.lst [vb, vo, .non, .int 0, .ref a5, .ref a6]) := upd_same
    have h5 := f3 _ _ h5
    have h6 := f3 _ _ h6
    have f13 := (f1.trans f2).trans f3
    generalize upd K7 W (.lst [vb, vo, .non, .int 0, .ref a5, .ref a6]) = K8 at f13 gW h5 h6 ⊢
    have mm : LamX.ExtN G K8 := m.trans (extN_same (e15.trans f13))
    have S8 := (S.same e15).same f13
    have odd : ∀ G', Same K8 G' → ∀ u ∈ ([vb, vo, .non, .int 0, .ref a5, .ref a6] : List V), NoLet G' u := by
      intro G' sm u hu
      simp only [List.mem_cons, List.not_mem_nil, or_false] at hu
      rcases hu with rfl | rfl | rfl | rfl | rfl | rfl
      · exact (Ob.extN (mm.trans (extN_same sm))).notlet
      · exact (Oo.extN (mm.trans (extN_same sm))).notlet
      · exact .inl (.inl rfl)
      · exact .inl (.inr (.inl ⟨_, rfl⟩))
      · exact .inl (.inr (.inr (.inr (.inr (.inl ⟨_, _, rfl, sm _ _ h5⟩)))))
      · exact .inl (.inr (.inr (.inr (.inr (.inr ⟨_, _, rfl, sm _ _ h6⟩)))))
    refine ⟨W, rfl, ⟨_, SqL.of gW⟩, fun D3 hD3 => ?_⟩
    refine lc_it (walk_list (K := K) (a := W) (xs := [vb, vo, .non, .int 0, .ref a5, .ref a6])) (fun j H' => Same K8 H' ∧ H' D3 = some (.lst [])) ⟨Same.new hD3, upd_same⟩ (fun _ _ _ p => SqL.of (p.1 _ _ gW)) ?_ ?_
    · rintro j x0 B1 B2 hj ⟨sm, gE⟩ ⟨rfl, hx0⟩
      have cv9 := S8.cv.same sm
      obtain ⟨dx, _, _, _, _, _, _, c1, _⟩ := id cv9
      refine ⟨rfl, ?_⟩
      refine ⟨_, rfl, _, rfl, x, dx, _, rfl, c1, x, x0, s0, st, tl, rfl, cv9, ?_⟩
      rcases odd _ sm x0 (List.mem_of_getElem? hx0) with nt | ⟨z, rfl, hz⟩
      · exact .inl ⟨nt, _, rfl, _, rfl, iteF ⟨sm, gE⟩⟩
      · refine .inr ⟨z, rfl, _, rfl, ?_⟩
        have nz : z ∉ lettersOf st := fun h => by
          rw [mem_lets] at h
          obtain ⟨e, he, rfl⟩ := List.mem_map.mp h
          have := (ok.ost e he).2.1
          rw [this] at hz
          cases hz
        rw [decide_eq_false nz]
        exact ⟨_, rfl, iteF ⟨sm, gE⟩⟩
    · rintro B1 ⟨sm, gE⟩
      refine ⟨(by show 0 ≤ sizeLine; decide), fun l0 hl0 => ?_⟩
      have s9 : Same B1 (upd B1 l0 (.lst [])) := Same.new hl0
      refine ⟨_, _, .lst (SqL.of (s9 _ _ gE)) .nil, .lst (SqL.of upd_same) .nil, by decide +kernel, by decide +kernel, ?_⟩
      have S10 := (S8.same sm).same s9
      exact k _ S10.tb (S10.gp.mono (by omega))
end
end KC
namespace KC
open PySem L2 PyProof.Rows
theorem no_odd : ∀ ss ∈ statesSome, ("nobody" : Str) ∉ ss ∧ ("" : Str) ∉ ss ∧ ("P" : Str) ∉ ss := by decide +kernel
theorem names_in {ns ls : List Str} {s y : Str} {st : List StE} {tl : List (Str × Str)} (hs : s ∈ ns) (h : Among ns ls st tl) (hy : y ∈ namesOf s st tl) : y ∈ ns := by
  unfold namesOf at hy
  have a := foldS_sub (ns := ns) st [s] (by simp) (fun y hy => by rw [List.mem_singleton.mp hy]; exact hs) (fun e he => let ⟨a, _, _, d⟩ := h.st e he; ⟨a, d⟩)
  exact (foldN_sub (ns := ns) (tl.map (·.1)) _ a.1 a.2 (fun y hy => by
    obtain ⟨e, he, rfl⟩ := List.mem_map.mp hy
    exact (h.tl e he).1)).2 y hy
theorem okBare : OkParts "s" [] [] := ⟨by decide +kernel, fun e h => (by cases h), by decide, fun e h => (by cases h), by decide, by decide +kernel, by decide +kernel⟩
theorem names_bare : namesOf "s" [] [] = [("s" : Str)] := by decide +kernel
theorem n1Bare : (namesOf "s" [] []).length = 1 := by decide +kernel
section
variable {P : Program} {w : World} {K : PySem.W.Frag} {mg : Str → Option Value} {base : Heap}
def spLaw (K : PySem.W.Frag) (PR : Addr) : Sp := fun vs H Q _ => ∃ (a : Addr) (ns : List Int), vs = [.ref a] ∧ SqL K H a (ns.map V.int) ∧ ns.length ≤ 63 ∧ LamX.Tabs (tabs PR) H ∧ ∀ H', Q (.bl true) H'
theorem law_g (TM : TxM K mg) (TH : TxH K mg) (RZ : ErrR P w K mg base) {PR : Addr}
    (OR : OwnC K mg base "_law_refused_right" s_lrefusedright ["_law_pen_here", "_law_made", "_law_parts_here"] PR)
    {f0 : Addr} {fd : FuncData} (F : Fun K "law" "law" s_law f0 fd) : FnG P w K mg base CX0 12 f0 fd ["_law_script"] (spLaw K PR) := by
  have TC := TM.C
  have T := TM.C.T
  refine F.okG sc_law (fun vs H Q E h => ?_) (fun cdv A outer s H vs Q E hA hr h => ?_)
  · obtain ⟨a, ns, rfl, _⟩ := h
    rfl
  · obtain ⟨a, ns, rfl, hs, hlen, tb, k⟩ := h
    refine ⟨_, (pss_cons (ps_set (i := 1) sc_law.nd rfl (Or.inl rfl) (pe_kf (kp_pen T) hA hr (by rfl) (pa_cons (pv 0) pa_nil)))
 (pss_cons (ps_for PassesOwn.never rfl (pi_range1 (by rfl) (T.nb _ (by decide)) (pa_cons (pe_int) pa_nil)) (pg_name (i := 2) sc_law.nd rfl (Or.inl rfl))
 (pss_cons (ps_set (i := 3) sc_law.nd rfl (Or.inl rfl) (pe_kf (kp_parts T) hA hr (by rfl) (pa_cons (pv 1) pa_nil)))
 (pss_cons (ps_set (i := 4) sc_law.nd rfl (Or.inl rfl) (pe_kmkN (kp_init TM.C) hr rfl TM.C.mgC (pa_cons (pe_ix (ix_tup : IxR _ (rIxT K)) (pv 3) (pe_int) (fun _ _ => rfl)) (pa_cons (pe_ix (ix_tup : IxR _ (rIxT K)) (pv 3) (pe_int) (fun _ _ => rfl)) (pa_cons (pe_ix (ix_tup : IxR _ (rIxT K)) (pv 3) (pe_int) (fun _ _ => rfl)) pa_nil)))))
 (pss_one (ps_if (PW.pt (pw_or (pt_not (pt_val (pe_kf (kp_right T TM) True.intro hr (by rfl) (pa_cons (pv 4) (pa_cons (pv 3) pa_nil))))) (pw_or1 (pt_not (pt_val (pe_kp (kp_ref T TM TH RZ OR) hA hr (by rfl) (pa_cons (pv 1) (pa_cons (pv 4) (pa_cons (pv 3) pa_nil)))))))))
 (pss_one (ps_ret (pe_bl))) pss_nil)))))
 (pss_cons (ps_set (i := 5) sc_law.nd rfl (Or.inl rfl) (pe_kmkN (kp_init TM.C) hr rfl TM.C.mgC (pa_cons pe_str (pa_cons pe_dnewT (pa_cons pe_dnewK pa_nil)))))
 (pss_one (ps_ret ((pe_and (pe_cmpR op_eq (pe_callB (call_lenO (ka_len TM) hr) (by rfl) (T.nb _ (by decide)) PySem.boot_len (pa_cons (pv 5) pa_nil)) (pe_int) (nomark _)) (pe_and (pe_cmpR (op_eqD hr.units : OpR _ _ (rEqD K)) (pe_lc (own := [("_law_state", 6)]) (g := gName 6) (tt := tYes) rfl sc_law.nd (pi_ownT (ka_iter TM) hr (pv 5)) (blkOk_by (N := n_law) (sc := defScope s_law) (by decide +kernel)) (fun _ _ _ _ _ => pg_name (i := 6) sc_law.nd rfl (Or.inl rfl)) (fun _ _ _ _ _ => pts_nil) (fun _ _ _ _ _ => (pv 6))) (pe_lst (pa_cons (pe_str) pa_nil)) (nomark _)) (pe_and (pe_cmpR op_isN (pe_kge (kp_get TM) hr passE0 (pv 5) (pe_tup (pa_cons (pe_str) (pa_cons (pe_str) pa_nil)))) (pe_non) (nomark _)) (pe_one (pe_cmpR (op_notInO (ka_cont TM) hr) (pe_str) (pv 5) rfl))))))))))), ?_⟩
    refine ⟨_, rfl, a, ns, rfl, hs, hlen, fun p c H1 hp0 hc0 s1 hp => ?_⟩
    have tb1 := tb.ext s1
    refine ⟨_, rfl, by decide, by decide, ?_⟩
    refine for_it (walk_range (lo := 0) (n := 6)) (fun i σ H' => ∃ (v2 v3 v4 : Option V), σ = [some (.ref a), some (.ref p), v2, v3, v4, none, none] ∧ PenAt H' p c ns (300 * i) ∧ LamX.Tabs (tabs PR) H')
      ⟨_, _, _, rfl, hp, tb1⟩ (fun _ _ _ _ _ => True.intro) ?_ ?_
    · rintro i xv σ G0 G hi ⟨v2, v3, v4, rfl, gp, gt⟩ ⟨rfl, ex⟩
      refine ⟨_, rfl, p, c, ns, _, rfl, gp, hlen, by omega, fun q s0 st tl G1 ok am pt gp1 b1 => ?_⟩
      obtain ⟨ss, hss, ls, hls, hs0, hAm⟩ := am
      have nn1 : ("nobody" : Str) ∉ namesOf s0 st tl := fun h => (no_odd ss hss).1 (names_in hs0 hAm h)
      have nn2 : ("" : Str) ∉ namesOf s0 st tl := fun h => (no_odd ss hss).2.1 (names_in hs0 hAm h)
      have nn3 : ("P" : Str) ∉ namesOf s0 st tl := fun h => (no_odd ss hss).2.2 (names_in hs0 hAm h)
      obtain ⟨xs, exs⟩ := gp.lst
      have tb2 := tabs_but gt exs (fun _ z => by cases z) (fun _ _ z => by cases z) b1
      obtain ⟨d, t, hq, hst, ht, nd⟩ := id pt
      refine ⟨_, rfl, q, _, 0, _, rfl, rfl, SqT.of hq, rfl, _, rfl, q, _, 1, _, rfl, rfl, SqT.of hq, rfl, _, rfl, q, _, 2, _, rfl, rfl, SqT.of hq, rfl, fun x dx hx hdx nxd => ?_⟩
      refine make_ok (K := K) (mg := mg) hst ht nd ok hx hdx nxd fun G2 s2 cv => ?_
      have gp2 := gp1.same s2
      have pt2 := pt.same s2
      have tb2 := tb2.ext s2
      clear hst ht nd hq d t
      refine ⟨_, rfl, _, rfl, x, q, s0, st, tl, rfl, cv, pt2, ok, fun G3 s3 => ⟨true, rfl, ?_⟩⟩
      refine ⟨_, rfl, _, rfl, _, rfl, p, c, x, q, ns, _, s0, st, tl, rfl, gp2.same s3, hlen, by omega, CvAt.same cv s3, pt2.same s3, ok, nn1, nn2, nn3, tb2.ext s3, fun G4 tb4 gp4 => ⟨true, rfl, iteF ?_⟩⟩
      exact ⟨_, _, _, rfl, gp4.mono (by omega), tb4⟩
    · rintro σ G ⟨v2, v3, v4, rfl, gp, gt⟩
      refine fun d1 hd1 => ?_
      have e1 : Same G (upd G d1 (.dT [])) := Same.new hd1
      have g1 : upd G d1 (.dT []) d1 = some (.dT []) := upd_same
      generalize upd G d1 (.dT []) = G1 at e1 g1 ⊢
      refine fun t1 ht1 => ?_
      have e2 : Same G1 (upd G1 t1 (.dK [])) := Same.new ht1
      have g2 : upd G1 t1 (.dK []) t1 = some (.dK []) := upd_same
      have g1 := e2 _ _ g1
      generalize upd G1 t1 (.dK []) = G2 at e2 g1 g2 ⊢
      have hst : StAt K G2 d1 [] := ⟨[], g1, ⟨rfl, fun i e h => by cases h⟩, List.nodup_nil⟩
      refine fun x dx hx hdx nxd => ?_
      refine make_ok (K := K) (mg := mg) (s := "s") (st := []) (tl := []) hst g2 List.nodup_nil okBare hx hdx nxd fun G3 s3 cv => ?_
      dsimp only [tNext, tRet, tAndV, tOp]
      have cv0 := cv
      obtain ⟨dx1, ss1, ls1, d2, t2, ys1, zs1, c1, _⟩ := id cv
      refine ⟨_, rfl, x, dx1, _, rfl, c1, x, "s", [], [], rfl, cv, okBare.n6, _, rfl, ?_, ?_⟩
      · exact Nat.lt_of_le_of_lt okBare.n6 (by decide)
      rw [n1Bare]
      refine ⟨rfl, _, rfl, iteT ?_⟩
      dsimp only [tNext, tRet, tAndV, tOp]
      refine iter_run (te := tVar 5) (σ := [some (.ref a), some (.ref p), v2, v3, v4, some (.ref x), none]) (fun R h => ⟨_, rfl, h⟩) cv fun ss2 ys2 gss2 py2 soy2 => ?_
      have e2 : ys2 = [("s" : Str)] := List.perm_singleton.mp (py2.trans (by rw [names_bare]))
      subst e2
      intro D3 hD3
      refine lc_it (walk_tup (a := ss2) (xs := [("s" : Str)].map V.str)) (fun j H' => Same G3 H' ∧ H' D3 = some (.lst (([("s" : Str)].take j).map V.str))) ⟨Same.new hD3, upd_same⟩ (fun _ _ _ p => SqT.of (p.1 _ _ gss2)) ?_ ?_
      · rintro j x0 B1 B2 hj ⟨sm2, gE⟩ ⟨rfl, hx0⟩
        obtain rfl : j = 0 := by simpa using hj
        obtain rfl : V.str "s" = x0 := Option.some.inj hx0
        refine ⟨rfl, yes_run ?_⟩
        refine ⟨_, rfl, _, gE, by decide, fun b o eb => upd_oth (fun z => by rw [z, hD3] at eb; cases eb) (sm2 _ _ eb), ?_⟩
        rw [upd_same]
        rfl
      · rintro B1 ⟨sm2, gE⟩
        refine ⟨by decide, fun L hL => ?_⟩
        have smL : Same B1 (upd B1 L (.lst [.str "s"])) := Same.new hL
        have gL : upd B1 L (.lst [.str "s"]) L = some (.lst [.str "s"]) := upd_same
        generalize upd B1 L (.lst [.str "s"]) = B2 at smL gL ⊢
        have sh := shaped_strL (zs := [("s" : Str)]) (by decide +kernel)
        refine ⟨_, _, .lst (SqL.of (smL _ _ gE)) (dp_strs [("s" : Str)]), .lst (SqL.of gL) (dp_strs [("s" : Str)]), sh, sh, ?_⟩
        rw [show PyData.eqv (.list ([("s" : Str)].map PyData.str)) (.list ([("s" : Str)].map PyData.str)) = true by simp [PyData.eqv, PyData.eqvAll]]
        refine ⟨_, rfl, iteT ?_⟩
        have cv2 := CvAt.same cv (sm2.trans smL)
        refine ⟨_, rfl, (by show 2 ≤ sizeLine; decide), fun kt hkt => ?_⟩
        have s5 : Same B2 (upd B2 kt (.tup [.str "s", .str "a"])) := Same.new hkt
        have gk : upd B2 kt (.tup [.str "s", .str "a"]) kt = some (.tup [.str "s", .str "a"]) := upd_same
        generalize upd B2 kt (.tup [.str "s", .str "a"]) = B3 at s5 gk ⊢
        have cv3 := CvAt.same cv2 s5
        obtain ⟨dx3, ss3, ls3, d3, t3, ys3, zs3, c3, _⟩ := id cv3
        refine ⟨x, dx3, _, rfl, c3, x, kt, "s", "a", "s", [], [], rfl, cv3, gk, (by decide +kernel), (by decide +kernel), ?_⟩
        rw [show stepOf [] "s" "a" = none from rfl]
        refine fun B4 s6 => ⟨rfl, _, rfl, iteT ?_⟩
        have cv4 := CvAt.same cv3 s6
        obtain ⟨dx4, ss4, ls4, d4, t4, ys4, zs4, c4, _⟩ := id cv4
        refine ⟨_, rfl, x, dx4, _, rfl, c4, x, _, "s", [], [], rfl, cv4, .inr ⟨"a", rfl, ⟨false, rfl, ?_⟩⟩⟩
        exact k _
end
end KC
namespace KC
open PySem L2
abbrev s_iBadConverter : Stmt := inClass (top 7) 0
abbrev s_iBadLetter : Stmt := inClass (top 4) 0
abbrev s_iNoState : Stmt := inClass (top 10) 0
def chk (K : PySem.W.Frag) : Bool :=
  tabless K && ((blts.all fun x => decide (PySem.W.nsIn K mainGlobals x = some none)) &&
  (decide (PySem.W.nsIn K mainGlobals "ValueError" = some none) &&
  ((hNames.all fun x => exB K (["value", "at", "state", "part", "what", "most", "line", "word"] : List Str) x) &&
  ((hNames.all fun x => hNames.all fun y => kitNB2 K x y (decide (x = y))) &&
  ((hNames.all fun x => kitNB K x (.type "ValueError") true) &&
  ((hNames.all fun x => exmB2 K x "HeadError" true) &&
  ((match PySem.W.nsIn K mainGlobals "HeadError" with
    | some (some (.ref _)) => true
    | _ => false) &&
  (errB K "BadConverter" ["part"] && (errB K "BadLetter" ["value"] && (errB K "NoState" ["value"] &&
  (match PySem.W.nsIn K mainGlobals "Converter" with
    | some (some (.ref C)) => ownB K ["start", "states", "letters", "steps", "tails"] C
    | _ => false)))))))))))
theorem fin_mk {P : Program} {w : World} {K : PySem.W.Frag} {mg : Str → Option Value} {h : Heap} {fa : Addr} (X : K.In h) (G : h.Ns mainGlobals mg)
    (hmg : mg "law" = some (.ref fa)) (tbs : ∀ y ∈ (["_law_refused_right"] : List Str), ∃ c T, TabOf mg h y c T) (c : chk K = true)
    {f0 : Addr} {od0 an0 : Option Addr} {sl0 : Array (Option Value)} {oc0 kV0 dc0 pm0 cd0 ct0 : Value}
    {f1 : Addr} {od1 an1 : Option Addr} {sl1 : Array (Option Value)} {oc1 kV1 dc1 pm1 cd1 ct1 : Value}
    {f2 : Addr} {od2 an2 : Option Addr} {sl2 : Array (Option Value)} {oc2 kV2 dc2 pm2 cd2 ct2 : Value}
    {f3 : Addr} {od3 an3 : Option Addr} {sl3 : Array (Option Value)} {oc3 kV3 dc3 pm3 cd3 ct3 : Value}
    {f4 : Addr} {od4 an4 : Option Addr} {sl4 : Array (Option Value)} {oc4 kV4 dc4 pm4 cd4 ct4 : Value}
    {f5 : Addr} {od5 an5 : Option Addr} {sl5 : Array (Option Value)} {oc5 kV5 dc5 pm5 cd5 ct5 : Value}
    {f6 : Addr} {od6 an6 : Option Addr} {sl6 : Array (Option Value)} {oc6 kV6 dc6 pm6 cd6 ct6 : Value}
    {f7 : Addr} {od7 an7 : Option Addr} {sl7 : Array (Option Value)} {oc7 kV7 dc7 pm7 cd7 ct7 : Value}
    {f8 : Addr} {od8 an8 : Option Addr} {sl8 : Array (Option Value)} {oc8 kV8 dc8 pm8 cd8 ct8 : Value}
    {f9 : Addr} {od9 an9 : Option Addr} {sl9 : Array (Option Value)} {oc9 kV9 dc9 pm9 cd9 ct9 : Value}
    {f10 : Addr} {od10 an10 : Option Addr} {sl10 : Array (Option Value)} {oc10 kV10 dc10 pm10 cd10 ct10 : Value}
    {f11 : Addr} {od11 an11 : Option Addr} {sl11 : Array (Option Value)} {oc11 kV11 dc11 pm11 cd11 ct11 : Value}
    {f12 : Addr} {od12 an12 : Option Addr} {sl12 : Array (Option Value)} {oc12 kV12 dc12 pm12 cd12 ct12 : Value}
    {f13 : Addr} {od13 an13 : Option Addr} {sl13 : Array (Option Value)} {oc13 kV13 dc13 pm13 cd13 ct13 : Value}
    {f14 : Addr} {od14 an14 : Option Addr} {sl14 : Array (Option Value)} {oc14 kV14 dc14 pm14 cd14 ct14 : Value}
    {f15 : Addr} {od15 an15 : Option Addr} {sl15 : Array (Option Value)} {oc15 kV15 dc15 pm15 cd15 ct15 : Value}
    {f16 : Addr} {od16 an16 : Option Addr} {sl16 : Array (Option Value)} {oc16 kV16 dc16 pm16 cd16 ct16 : Value}
    {f17 : Addr} {od17 an17 : Option Addr} {sl17 : Array (Option Value)} {oc17 kV17 dc17 pm17 cd17 ct17 : Value}
    {f18 : Addr} {od18 an18 : Option Addr} {sl18 : Array (Option Value)} {oc18 kV18 dc18 pm18 cd18 ct18 : Value}
    {f19 : Addr} {od19 an19 : Option Addr} {sl19 : Array (Option Value)} {oc19 kV19 dc19 pm19 cd19 ct19 : Value}
    {f20 : Addr} {od20 an20 : Option Addr} {sl20 : Array (Option Value)} {oc20 kV20 dc20 pm20 cd20 ct20 : Value}
    {t0 : Tok}
    {t1 : Tok}
    {t2 : Tok}
    {t3 : Tok}
    {C : Addr}
    {u0 : Tok}
    {u1 : Tok}
    {f40 : Addr} {od40 an40 : Option Addr} {sl40 : Array (Option Value)} {oc40 kV40 dc40 pm40 cd40 ct40 : Value}
    {f41 : Addr} {od41 an41 : Option Addr} {sl41 : Array (Option Value)} {oc41 kV41 dc41 pm41 cd41 ct41 : Value}
    {f42 : Addr} {od42 an42 : Option Addr} {sl42 : Array (Option Value)} {oc42 kV42 dc42 pm42 cd42 ct42 : Value}
    {f43 : Addr} {od43 an43 : Option Addr} {sl43 : Array (Option Value)} {oc43 kV43 dc43 pm43 cd43 ct43 : Value}
    {f44 : Addr} {od44 an44 : Option Addr} {sl44 : Array (Option Value)} {oc44 kV44 dc44 pm44 cd44 ct44 : Value}
    {f45 : Addr} {od45 an45 : Option Addr} {sl45 : Array (Option Value)} {oc45 kV45 dc45 pm45 cd45 ct45 : Value}
    {f60 : Addr} {od60 an60 : Option Addr} {sl60 : Array (Option Value)} {oc60 kV60 dc60 pm60 cd60 ct60 : Value} {D60 : Addr}
    {f61 : Addr} {od61 an61 : Option Addr} {sl61 : Array (Option Value)} {oc61 kV61 dc61 pm61 cd61 ct61 : Value} {D61 : Addr}
    {f62 : Addr} {od62 an62 : Option Addr} {sl62 : Array (Option Value)} {oc62 kV62 dc62 pm62 cd62 ct62 : Value} {D62 : Addr}
    (a0 : PySem.W.nsIn K mainGlobals "is_pair" = some (some (.ref f0)))
    (l0 : K.lookup f0 = some ⟨oc0, od0, .func (PySem.W.fnOf "is_pair" "is_pair" (defArgs s_ipair) (defBody s_ipair) (defScope s_ipair) .none kV0 dc0 pm0 an0 cd0 ct0), sl0⟩)
    (c0 : PySem.W.codeIn K cd0 "is_pair" = true) (k0 : PySem.W.keepIn K (.ref f0) = true)
    (a1 : PySem.W.nsIn K mainGlobals "is_letters" = some (some (.ref f1)))
    (l1 : K.lookup f1 = some ⟨oc1, od1, .func (PySem.W.fnOf "is_letters" "is_letters" (defArgs s_iletters) (defBody s_iletters) (defScope s_iletters) .none kV1 dc1 pm1 an1 cd1 ct1), sl1⟩)
    (c1 : PySem.W.codeIn K cd1 "is_letters" = true) (k1 : PySem.W.keepIn K (.ref f1) = true)
    (a2 : PySem.W.nsIn K mainGlobals "is_letter" = some (some (.ref f2)))
    (l2 : K.lookup f2 = some ⟨oc2, od2, .func (PySem.W.fnOf "is_letter" "is_letter" (defArgs s_iletter) (defBody s_iletter) (defScope s_iletter) .none kV2 dc2 pm2 an2 cd2 ct2), sl2⟩)
    (c2 : PySem.W.codeIn K cd2 "is_letter" = true) (k2 : PySem.W.keepIn K (.ref f2) = true)
    (a3 : PySem.W.nsIn K mainGlobals "is_name" = some (some (.ref f3)))
    (l3 : K.lookup f3 = some ⟨oc3, od3, .func (PySem.W.fnOf "is_name" "is_name" (defArgs s_iname) (defBody s_iname) (defScope s_iname) .none kV3 dc3 pm3 an3 cd3 ct3), sl3⟩)
    (c3 : PySem.W.codeIn K cd3 "is_name" = true) (k3 : PySem.W.keepIn K (.ref f3) = true)
    (a4 : PySem.W.nsIn K mainGlobals "is_answer" = some (some (.ref f4)))
    (l4 : K.lookup f4 = some ⟨oc4, od4, .func (PySem.W.fnOf "is_answer" "is_answer" (defArgs s_ianswer) (defBody s_ianswer) (defScope s_ianswer) .none kV4 dc4 pm4 an4 cd4 ct4), sl4⟩)
    (c4 : PySem.W.codeIn K cd4 "is_answer" = true) (k4 : PySem.W.keepIn K (.ref f4) = true)
    (a5 : PySem.W.nsIn K mainGlobals "is_text" = some (some (.ref f5)))
    (l5 : K.lookup f5 = some ⟨oc5, od5, .func (PySem.W.fnOf "is_text" "is_text" (defArgs s_itext) (defBody s_itext) (defScope s_itext) .none kV5 dc5 pm5 an5 cd5 ct5), sl5⟩)
    (c5 : PySem.W.codeIn K cd5 "is_text" = true) (k5 : PySem.W.keepIn K (.ref f5) = true)
    (a6 : PySem.W.nsIn K mainGlobals "is_goal" = some (some (.ref f6)))
    (l6 : K.lookup f6 = some ⟨oc6, od6, .func (PySem.W.fnOf "is_goal" "is_goal" (defArgs s_igoal) (defBody s_igoal) (defScope s_igoal) .none kV6 dc6 pm6 an6 cd6 ct6), sl6⟩)
    (c6 : PySem.W.codeIn K cd6 "is_goal" = true) (k6 : PySem.W.keepIn K (.ref f6) = true)
    (a7 : PySem.W.nsIn K mainGlobals "are_steps" = some (some (.ref f7)))
    (l7 : K.lookup f7 = some ⟨oc7, od7, .func (PySem.W.fnOf "are_steps" "are_steps" (defArgs s_asteps) (defBody s_asteps) (defScope s_asteps) .none kV7 dc7 pm7 an7 cd7 ct7), sl7⟩)
    (c7 : PySem.W.codeIn K cd7 "are_steps" = true) (k7 : PySem.W.keepIn K (.ref f7) = true)
    (a8 : PySem.W.nsIn K mainGlobals "are_tails" = some (some (.ref f8)))
    (l8 : K.lookup f8 = some ⟨oc8, od8, .func (PySem.W.fnOf "are_tails" "are_tails" (defArgs s_atails) (defBody s_atails) (defScope s_atails) .none kV8 dc8 pm8 an8 cd8 ct8), sl8⟩)
    (c8 : PySem.W.codeIn K cd8 "are_tails" = true) (k8 : PySem.W.keepIn K (.ref f8) = true)
    (a9 : PySem.W.nsIn K mainGlobals "state_names" = some (some (.ref f9)))
    (l9 : K.lookup f9 = some ⟨oc9, od9, .func (PySem.W.fnOf "state_names" "state_names" (defArgs s_snames) (defBody s_snames) (defScope s_snames) .none kV9 dc9 pm9 an9 cd9 ct9), sl9⟩)
    (c9 : PySem.W.codeIn K cd9 "state_names" = true) (k9 : PySem.W.keepIn K (.ref f9) = true)
    (a10 : PySem.W.nsIn K mainGlobals "step_letters" = some (some (.ref f10)))
    (l10 : K.lookup f10 = some ⟨oc10, od10, .func (PySem.W.fnOf "step_letters" "step_letters" (defArgs s_sletters) (defBody s_sletters) (defScope s_sletters) .none kV10 dc10 pm10 an10 cd10 ct10), sl10⟩)
    (c10 : PySem.W.codeIn K cd10 "step_letters" = true) (k10 : PySem.W.keepIn K (.ref f10) = true)
    (a11 : PySem.W.nsIn K mainGlobals "followed" = some (some (.ref f11)))
    (l11 : K.lookup f11 = some ⟨oc11, od11, .func (PySem.W.fnOf "followed" "followed" (defArgs s_followed) (defBody s_followed) (defScope s_followed) .none kV11 dc11 pm11 an11 cd11 ct11), sl11⟩)
    (c11 : PySem.W.codeIn K cd11 "followed" = true) (k11 : PySem.W.keepIn K (.ref f11) = true)
    (a12 : PySem.W.nsIn K mainGlobals "_law_pen" = some (some (.ref f12)))
    (l12 : K.lookup f12 = some ⟨oc12, od12, .func (PySem.W.fnOf "_law_pen" "_law_pen" (defArgs s_lpen) (defBody s_lpen) (defScope s_lpen) .none kV12 dc12 pm12 an12 cd12 ct12), sl12⟩)
    (c12 : PySem.W.codeIn K cd12 "_law_pen" = true) (k12 : PySem.W.keepIn K (.ref f12) = true)
    (a13 : PySem.W.nsIn K mainGlobals "_law_draw" = some (some (.ref f13)))
    (l13 : K.lookup f13 = some ⟨oc13, od13, .func (PySem.W.fnOf "_law_draw" "_law_draw" (defArgs s_ldraw) (defBody s_ldraw) (defScope s_ldraw) .none kV13 dc13 pm13 an13 cd13 ct13), sl13⟩)
    (c13 : PySem.W.codeIn K cd13 "_law_draw" = true) (k13 : PySem.W.keepIn K (.ref f13) = true)
    (a14 : PySem.W.nsIn K mainGlobals "_law_pick" = some (some (.ref f14)))
    (l14 : K.lookup f14 = some ⟨oc14, od14, .func (PySem.W.fnOf "_law_pick" "_law_pick" (defArgs s_lpick) (defBody s_lpick) (defScope s_lpick) .none kV14 dc14 pm14 an14 cd14 ct14), sl14⟩)
    (c14 : PySem.W.codeIn K cd14 "_law_pick" = true) (k14 : PySem.W.keepIn K (.ref f14) = true)
    (a15 : PySem.W.nsIn K mainGlobals "_law_parts" = some (some (.ref f15)))
    (l15 : K.lookup f15 = some ⟨oc15, od15, .func (PySem.W.fnOf "_law_parts" "_law_parts" (defArgs s_lparts) (defBody s_lparts) (defScope s_lparts) .none kV15 dc15 pm15 an15 cd15 ct15), sl15⟩)
    (c15 : PySem.W.codeIn K cd15 "_law_parts" = true) (k15 : PySem.W.keepIn K (.ref f15) = true)
    (a16 : PySem.W.nsIn K mainGlobals "_law_states" = some (some (.ref f16)))
    (l16 : K.lookup f16 = some ⟨oc16, od16, .func (PySem.W.fnOf "_law_states" "_law_states" (defArgs s_lstates) (defBody s_lstates) (defScope s_lstates) .none kV16 dc16 pm16 an16 cd16 ct16), sl16⟩)
    (c16 : PySem.W.codeIn K cd16 "_law_states" = true) (k16 : PySem.W.keepIn K (.ref f16) = true)
    (a17 : PySem.W.nsIn K mainGlobals "_law_heard" = some (some (.ref f17)))
    (l17 : K.lookup f17 = some ⟨oc17, od17, .func (PySem.W.fnOf "_law_heard" "_law_heard" (defArgs s_lheard) (defBody s_lheard) (defScope s_lheard) .none kV17 dc17 pm17 an17 cd17 ct17), sl17⟩)
    (c17 : PySem.W.codeIn K cd17 "_law_heard" = true) (k17 : PySem.W.keepIn K (.ref f17) = true)
    (a18 : PySem.W.nsIn K mainGlobals "_law_right" = some (some (.ref f18)))
    (l18 : K.lookup f18 = some ⟨oc18, od18, .func (PySem.W.fnOf "_law_right" "_law_right" (defArgs s_lright) (defBody s_lright) (defScope s_lright) .none kV18 dc18 pm18 an18 cd18 ct18), sl18⟩)
    (c18 : PySem.W.codeIn K cd18 "_law_right" = true) (k18 : PySem.W.keepIn K (.ref f18) = true)
    (a19 : PySem.W.nsIn K mainGlobals "_law_refused_right" = some (some (.ref f19)))
    (l19 : K.lookup f19 = some ⟨oc19, od19, .func (PySem.W.fnOf "_law_refused_right" "_law_refused_right" (defArgs s_lrefusedright) (defBody s_lrefusedright) (defScope s_lrefusedright) .none kV19 dc19 pm19 an19 cd19 ct19), sl19⟩)
    (c19 : PySem.W.codeIn K cd19 "_law_refused_right" = true) (k19 : PySem.W.keepIn K (.ref f19) = true)
    (a20 : PySem.W.nsIn K mainGlobals "law" = some (some (.ref f20)))
    (l20 : K.lookup f20 = some ⟨oc20, od20, .func (PySem.W.fnOf "law" "law" (defArgs s_law) (defBody s_law) (defScope s_law) .none kV20 dc20 pm20 an20 cd20 ct20), sl20⟩)
    (c20 : PySem.W.codeIn K cd20 "law" = true) (k20 : PySem.W.keepIn K (.ref f20) = true)
    (G0 : PySem.W.nsIn K mainGlobals "LETTERS" = some (some (.str "abcdefghijklmnopqrstuvwxyz" t0)))
    (G1 : PySem.W.nsIn K mainGlobals "LONGEST_NAME" = some (some (.int 8 t1)))
    (G2 : PySem.W.nsIn K mainGlobals "LONGEST_ANSWER" = some (some (.int 4 t2)))
    (G3 : PySem.W.nsIn K mainGlobals "LONGEST_TEXT" = some (some (.int 400 t3)))
    (A : PySem.W.nsIn K mainGlobals "Converter" = some (some (.ref C)))
    (N0 : PySem.W.findIn K (.ref C) "MOST" = some (some (.int 6 u0)))
    (O0 : PySem.W.specialIn K (.int 6 u0) "__get__" = some none)
    (N1 : PySem.W.findIn K (.ref C) "MOST_LETTERS" = some (some (.int 4 u1)))
    (O1 : PySem.W.specialIn K (.int 4 u1) "__get__" = some none)
    (I40 : PySem.W.findIn K (.ref C) "__init__" = some (some (.ref f40)))
    (J40 : PySem.W.isFn K (.ref f40) = true)
    (l40 : K.lookup f40 = some ⟨oc40, od40, .func (PySem.W.fnOf "__init__" "Converter.__init__" (defArgs s_init) (defBody s_init) (defScope s_init) .none kV40 dc40 pm40 an40 cd40 ct40), sl40⟩)
    (c40 : PySem.W.codeIn K cd40 "Converter.__init__" = true) (k40 : PySem.W.keepIn K (.ref f40) = true)
    (I41 : PySem.W.findIn K (.ref C) "tail" = some (some (.ref f41)))
    (J41 : PySem.W.isFn K (.ref f41) = true)
    (l41 : K.lookup f41 = some ⟨oc41, od41, .func (PySem.W.fnOf "tail" "Converter.tail" (defArgs s_tail) (defBody s_tail) (defScope s_tail) .none kV41 dc41 pm41 an41 cd41 ct41), sl41⟩)
    (c41 : PySem.W.codeIn K cd41 "Converter.tail" = true) (k41 : PySem.W.keepIn K (.ref f41) = true)
    (I42 : PySem.W.findIn K (.ref C) "__getitem__" = some (some (.ref f42)))
    (J42 : PySem.W.isFn K (.ref f42) = true) (Q42 : PySem.W.fnIn K f42 = true)
    (l42 : K.lookup f42 = some ⟨oc42, od42, .func (PySem.W.fnOf "__getitem__" "Converter.__getitem__" (defArgs s_getm) (defBody s_getm) (defScope s_getm) .none kV42 dc42 pm42 an42 cd42 ct42), sl42⟩)
    (c42 : PySem.W.codeIn K cd42 "Converter.__getitem__" = true) (k42 : PySem.W.keepIn K (.ref f42) = true)
    (I43 : PySem.W.findIn K (.ref C) "__contains__" = some (some (.ref f43)))
    (J43 : PySem.W.isFn K (.ref f43) = true)
    (l43 : K.lookup f43 = some ⟨oc43, od43, .func (PySem.W.fnOf "__contains__" "Converter.__contains__" (defArgs s_cont) (defBody s_cont) (defScope s_cont) .none kV43 dc43 pm43 an43 cd43 ct43), sl43⟩)
    (c43 : PySem.W.codeIn K cd43 "Converter.__contains__" = true) (k43 : PySem.W.keepIn K (.ref f43) = true)
    (I44 : PySem.W.findIn K (.ref C) "__len__" = some (some (.ref f44)))
    (J44 : PySem.W.isFn K (.ref f44) = true)
    (l44 : K.lookup f44 = some ⟨oc44, od44, .func (PySem.W.fnOf "__len__" "Converter.__len__" (defArgs s_len) (defBody s_len) (defScope s_len) .none kV44 dc44 pm44 an44 cd44 ct44), sl44⟩)
    (c44 : PySem.W.codeIn K cd44 "Converter.__len__" = true) (k44 : PySem.W.keepIn K (.ref f44) = true)
    (I45 : PySem.W.findIn K (.ref C) "__iter__" = some (some (.ref f45)))
    (J45 : PySem.W.isFn K (.ref f45) = true)
    (l45 : K.lookup f45 = some ⟨oc45, od45, .func (PySem.W.fnOf "__iter__" "Converter.__iter__" (defArgs s_iter) (defBody s_iter) (defScope s_iter) .none kV45 dc45 pm45 an45 cd45 ct45), sl45⟩)
    (c45 : PySem.W.codeIn K cd45 "Converter.__iter__" = true) (k45 : PySem.W.keepIn K (.ref f45) = true)
    (A60 : PySem.W.nsIn K mainGlobals "BadConverter" = some (some (.ref D60)))
    (I60 : PySem.W.findIn K (.ref D60) "__init__" = some (some (.ref f60))) (T60 : PySem.W.typeIn K (.ref f60) = some (.type "function"))
    (l60 : K.lookup f60 = some ⟨oc60, od60, .func (PySem.W.fnOf "__init__" "BadConverter.__init__" (defArgs s_iBadConverter) (defBody s_iBadConverter) (defScope s_iBadConverter) .none kV60 dc60 pm60 an60 cd60 ct60), sl60⟩)
    (c60 : PySem.W.codeIn K cd60 "BadConverter.__init__" = true) (k60 : PySem.W.keepIn K (.ref f60) = true)
    (A61 : PySem.W.nsIn K mainGlobals "BadLetter" = some (some (.ref D61)))
    (I61 : PySem.W.findIn K (.ref D61) "__init__" = some (some (.ref f61))) (T61 : PySem.W.typeIn K (.ref f61) = some (.type "function"))
    (l61 : K.lookup f61 = some ⟨oc61, od61, .func (PySem.W.fnOf "__init__" "BadLetter.__init__" (defArgs s_iBadLetter) (defBody s_iBadLetter) (defScope s_iBadLetter) .none kV61 dc61 pm61 an61 cd61 ct61), sl61⟩)
    (c61 : PySem.W.codeIn K cd61 "BadLetter.__init__" = true) (k61 : PySem.W.keepIn K (.ref f61) = true)
    (A62 : PySem.W.nsIn K mainGlobals "NoState" = some (some (.ref D62)))
    (I62 : PySem.W.findIn K (.ref D62) "__init__" = some (some (.ref f62))) (T62 : PySem.W.typeIn K (.ref f62) = some (.type "function"))
    (l62 : K.lookup f62 = some ⟨oc62, od62, .func (PySem.W.fnOf "__init__" "NoState.__init__" (defArgs s_iNoState) (defBody s_iNoState) (defScope s_iNoState) .none kV62 dc62 pm62 an62 cd62 ct62), sl62⟩)
    (c62 : PySem.W.codeIn K cd62 "NoState.__init__" = true) (k62 : PySem.W.keepIn K (.ref f62) = true)
    : ∃ (fd : FuncData) (cs : List (Addr × Addr)) (sp : Sp), (∀ p ∈ cs, ∃ y, TabOf mg h y p.1 p.2) ∧ (∀ p ∈ cs, K.lookup p.2 = none) ∧ (∀ (s : Shared) (u : Value), BindsTo s fd ⟨[u], []⟩ [("_law_script", u)]) ∧
      (∀ (H : Hp) (a : Addr) (ns : List Int), ns.length ≤ 63 → (∀ p ∈ cs, H p.2 = some (.tbl #[])) → SqL K H a (ns.map V.int) → sp [.ref a] H (fun v _ => v = .bl true) E0) ∧
      ∀ base : Heap, K.In base → base.Ns mainGlobals mg → (∀ p ∈ cs, LamX.TabB base mg p.1 p.2) → FnG P w K mg base CX0 12 fa fd ["_law_script"] sp := by
  have d0 : OwnD K mg "is_pair" s_ipair ["value"] := own_mk X G a0 l0 c0 k0 (fun _ _ _ _ _ _ us hl => match us, hl with | [_], _ => rfl)
  have d1 : OwnD K mg "is_letters" s_iletters ["value", "least", "most"] := own_mk X G a1 l1 c1 k1 (fun _ _ _ _ _ _ us hl => match us, hl with | [_, _, _], _ => rfl)
  have d2 : OwnD K mg "is_letter" s_iletter ["value"] := own_mk X G a2 l2 c2 k2 (fun _ _ _ _ _ _ us hl => match us, hl with | [_], _ => rfl)
  have d3 : OwnD K mg "is_name" s_iname ["value"] := own_mk X G a3 l3 c3 k3 (fun _ _ _ _ _ _ us hl => match us, hl with | [_], _ => rfl)
  have d4 : OwnD K mg "is_answer" s_ianswer ["value"] := own_mk X G a4 l4 c4 k4 (fun _ _ _ _ _ _ us hl => match us, hl with | [_], _ => rfl)
  have d5 : OwnD K mg "is_text" s_itext ["value"] := own_mk X G a5 l5 c5 k5 (fun _ _ _ _ _ _ us hl => match us, hl with | [_], _ => rfl)
  have d6 : OwnD K mg "is_goal" s_igoal ["value"] := own_mk X G a6 l6 c6 k6 (fun _ _ _ _ _ _ us hl => match us, hl with | [_], _ => rfl)
  have d7 : OwnD K mg "are_steps" s_asteps ["steps"] := own_mk X G a7 l7 c7 k7 (fun _ _ _ _ _ _ us hl => match us, hl with | [_], _ => rfl)
  have d8 : OwnD K mg "are_tails" s_atails ["tails"] := own_mk X G a8 l8 c8 k8 (fun _ _ _ _ _ _ us hl => match us, hl with | [_], _ => rfl)
  have d9 : OwnD K mg "state_names" s_snames ["start", "steps", "tails"] := own_mk X G a9 l9 c9 k9 (fun _ _ _ _ _ _ us hl => match us, hl with | [_, _, _], _ => rfl)
  have d10 : OwnD K mg "step_letters" s_sletters ["steps"] := own_mk X G a10 l10 c10 k10 (fun _ _ _ _ _ _ us hl => match us, hl with | [_], _ => rfl)
  have d11 : OwnD K mg "followed" s_followed ["converter", "start", "text"] := own_mk X G a11 l11 c11 k11 (fun _ _ _ _ _ _ us hl => match us, hl with | [_, _, _], _ => rfl)
  have d12 : OwnD K mg "_law_pen" s_lpen ["_law_script"] := own_mk X G a12 l12 c12 k12 (fun _ _ _ _ _ _ us hl => match us, hl with | [_], _ => rfl)
  have d13 : OwnD K mg "_law_draw" s_ldraw ["_law_pen_here", "_law_many"] := own_mk X G a13 l13 c13 k13 (fun _ _ _ _ _ _ us hl => match us, hl with | [_, _], _ => rfl)
  have d14 : OwnD K mg "_law_pick" s_lpick ["_law_pen_here", "_law_some"] := own_mk X G a14 l14 c14 k14 (fun _ _ _ _ _ _ us hl => match us, hl with | [_, _], _ => rfl)
  have d15 : OwnD K mg "_law_parts" s_lparts ["_law_pen_here"] := own_mk X G a15 l15 c15 k15 (fun _ _ _ _ _ _ us hl => match us, hl with | [_], _ => rfl)
  have d16 : OwnD K mg "_law_states" s_lstates ["_law_parts_here"] := own_mk X G a16 l16 c16 k16 (fun _ _ _ _ _ _ us hl => match us, hl with | [_], _ => rfl)
  have d17 : OwnD K mg "_law_heard" s_lheard ["_law_ask"] := own_mk X G a17 l17 c17 k17 (fun _ _ _ _ _ _ us hl => match us, hl with | [_], _ => rfl)
  have d18 : OwnD K mg "_law_right" s_lright ["_law_made", "_law_parts_here"] := own_mk X G a18 l18 c18 k18 (fun _ _ _ _ _ _ us hl => match us, hl with | [_, _], _ => rfl)
  have d19 : OwnD K mg "_law_refused_right" s_lrefusedright ["_law_pen_here", "_law_made", "_law_parts_here"] := own_mk X G a19 l19 c19 k19 (fun _ _ _ _ _ _ us hl => match us, hl with | [_, _, _], _ => rfl)
  have d20 : OwnD K mg "law" s_law ["_law_script"] := own_mk X G a20 l20 c20 k20 (fun _ _ _ _ _ _ us hl => match us, hl with | [_], _ => rfl)
  unfold chk at c
  simp only [Bool.and_eq_true, List.all_eq_true, decide_eq_true_eq] at c
  obtain ⟨cT, c1, c2, c3, c4, c5, c6, c7, e60, e61, e62, cC⟩ := c
  have T : Txt K mg := ⟨fun x hx => PySem.W.mg_none_of X G (c1 x hx), ⟨_, PySem.W.mg_of X G G0⟩, ⟨_, PySem.W.mg_of X G G1⟩, ⟨_, PySem.W.mg_of X G G2⟩, ⟨_, PySem.W.mg_of X G G3⟩, d0, d1, d2, d3, d4, d5, d6, d7, d8, d9, d10, d11, d12, d13, d14, d15, d16, d17, d18, d19, d20⟩
  have mC := PySem.W.mg_of X G A
  have eC : gC mg = C := adr_of mC
  rw [A] at cC
  replace cC : ownB K ["start", "states", "letters", "steps", "tails"] C = true := cC
  obtain ⟨o1, o2, o3, o4⟩ := own_of cC
  have nA : ∀ x ∈ ["start", "states", "letters", "steps", "tails"], NoAttr K (gC mg) x := fun x hx => by
    rw [eC]
    simp only [List.mem_cons, List.not_mem_nil, or_false] at hx
    rcases hx with rfl | rfl | rfl | rfl | rfl <;> exact o2 _ (by decide)
  have TC : TxC K mg := by
    refine ⟨T, by rw [eC]; exact mC, by rw [eC]; exact o1, fun x hx => nA x hx, ?_, ?_, ?_⟩
    all_goals rw [eC]
    · exact ⟨_, ⟨N0, ⟨_, rfl⟩, O0, by decide⟩⟩
    · exact ⟨_, ⟨N1, ⟨_, rfl⟩, O1, by decide⟩⟩
    · exact ⟨f40, _, ⟨o3, I40, J40, o4⟩, mdef (x := "__init__") (q := "Converter.__init__") (st := s_init) l40 c40 k40,
        (mdef (x := "__init__") (q := "Converter.__init__") (st := s_init) l40 c40 k40).bindsN fun _ _ _ _ _ _ us hl => match us, hl with | [_, _, _, _], _ => rfl⟩
  have TM : TxM K mg := by
    refine ⟨TC, ?_, ?_, ?_, ?_, ?_⟩
    all_goals rw [eC]
    · exact ⟨f41, _, ⟨I41, J41, k41⟩, mdef (x := "tail") (q := "Converter.tail") (st := s_tail) l41 c41 k41, (mdef (x := "tail") (q := "Converter.tail") (st := s_tail) l41 c41 k41).bindsN fun _ _ _ _ _ _ us hl => match us, hl with | [_, _], _ => rfl, fun s u ws hl => match ws, hl with | [_], _ => .of_eq rfl⟩
    · exact ⟨f42, _, ⟨I42, Q42, J42⟩, mdef (x := "__getitem__") (q := "Converter.__getitem__") (st := s_getm) l42 c42 k42, (mdef (x := "__getitem__") (q := "Converter.__getitem__") (st := s_getm) l42 c42 k42).bindsN fun _ _ _ _ _ _ us hl => match us, hl with | [_, _], _ => rfl⟩
    · exact ⟨f43, _, I43, J43, mdef (x := "__contains__") (q := "Converter.__contains__") (st := s_cont) l43 c43 k43, (mdef (x := "__contains__") (q := "Converter.__contains__") (st := s_cont) l43 c43 k43).bindsN fun _ _ _ _ _ _ us hl => match us, hl with | [_, _], _ => rfl⟩
    · exact ⟨f44, _, I44, J44, mdef (x := "__len__") (q := "Converter.__len__") (st := s_len) l44 c44 k44, (mdef (x := "__len__") (q := "Converter.__len__") (st := s_len) l44 c44 k44).bindsN fun _ _ _ _ _ _ us hl => match us, hl with | [_], _ => rfl⟩
    · exact ⟨f45, _, I45, J45, mdef (x := "__iter__") (q := "Converter.__iter__") (st := s_iter) l45 c45 k45, (mdef (x := "__iter__") (q := "Converter.__iter__") (st := s_iter) l45 c45 k45).bindsN fun _ _ _ _ _ _ us hl => match us, hl with | [_], _ => rfl⟩
  have TH : TxH K mg := by
    refine ⟨T, PySem.W.mg_none_of X G c2, ?_, fun x hx => (ex_of X G (c3 x hx)).1, fun x hx => (ex_of X G (c3 x hx)).2.1, fun x hx => (ex_of X G (c3 x hx)).2.2, fun x hx y hy => kit_of2 X G (c4 x hx y hy), fun x hx => kit_of1 X G (c5 x hx), fun x hx => exm_of2 X G (c6 x hx)⟩
    split at c7
    · rename_i D hD
      rw [adr_of (PySem.W.mg_of X G hD)]
      exact PySem.W.mg_of X G hD
    · cases c7
  have E60 := errK_of X G e60
  have x60 : adr mg "BadConverter" = D60 := adr_of (PySem.W.mg_of X G A60)
  have E61 := errK_of X G e61
  have x61 : adr mg "BadLetter" = D61 := adr_of (PySem.W.mg_of X G A61)
  have E62 := errK_of X G e62
  have x62 : adr mg "NoState" = D62 := adr_of (PySem.W.mg_of X G A62)
  have RZ : ∀ base : Heap, ErrR P w K mg base := fun base => by
    refine ⟨?_, ?_, ?_⟩
    · have F := fun_mk (st := s_iBadConverter) l60 c60 k60
      exact ⟨E60.mgx, f60, _, ⟨E60.T, by rw [x60]; exact I60, T60⟩, F.binds fun _ _ _ _ _ _ us hl => match us, hl with | [_, _], _ => rfl,
        ini1d E60 F ⟨rfl, rfl, rfl, by decide +kernel, rfl, by decide +kernel, by decide +kernel⟩ fun _ _ _ _ _ _ => pss_one (ps_ost (pv 0) (pv 1))⟩
    · have F := fun_mk (st := s_iBadLetter) l61 c61 k61
      exact ⟨E61.mgx, f61, _, ⟨E61.T, by rw [x61]; exact I61, T61⟩, F.binds fun _ _ _ _ _ _ us hl => match us, hl with | [_, _], _ => rfl,
        ini1d E61 F ⟨rfl, rfl, rfl, by decide +kernel, rfl, by decide +kernel, by decide +kernel⟩ fun _ _ _ _ _ _ => pss_one (ps_ost (pv 0) (pv 1))⟩
    · have F := fun_mk (st := s_iNoState) l62 c62 k62
      exact ⟨E62.mgx, f62, _, ⟨E62.T, by rw [x62]; exact I62, T62⟩, F.binds fun _ _ _ _ _ _ us hl => match us, hl with | [_, _], _ => rfl,
        ini1d E62 F ⟨rfl, rfl, rfl, by decide +kernel, rfl, by decide +kernel, by decide +kernel⟩ fun _ _ _ _ _ _ => pss_one (ps_ost (pv 0) (pv 1))⟩
  obtain ⟨c_0, P_0, t_0⟩ := tbs "_law_refused_right" (by decide)
  have e_0 := tab_code X G a19 l19 t_0
  have F_0 := funC_mk (st := s_lrefusedright) l19 c19 k19 e_0
  have G_0 := fun_mk (st := s_lrefusedright) l19 c19 k19
  have FL := fun_mk (st := s_law) l20 c20 k20
  obtain rfl : f20 = fa := Value.ref.inj (Option.some.inj ((PySem.W.mg_of X G a20).symm.trans hmg))
  refine ⟨PySem.W.fnOf "law" "law" (defArgs s_law) (defBody s_law) (defScope s_law) .none kV20 dc20 pm20 an20 cd20 ct20, [(c_0, P_0)], spLaw K P_0, fun p hp => ?_, fun p hp => ?_, fun s v => .of_eq rfl, fun H a ns hl hT hS => ?_, fun base KB GB TB => ?_⟩
  · obtain rfl := List.mem_singleton.mp hp
    exact ⟨_, t_0⟩
  · obtain rfl := List.mem_singleton.mp hp
    obtain ⟨_, _, _, _, _, _, _, _, e⟩ := t_0
    exact tabless_none X cT e
  · refine ⟨a, ns, rfl, hS, hl, fun p hp => ?_, fun _ => rfl⟩
    obtain rfl := List.mem_singleton.mp hp
    exact .nil (hT (c_0, P_0) List.mem_cons_self)
  · have O0 : OwnC K mg base "_law_refused_right" s_lrefusedright ["_law_pen_here", "_law_made", "_law_parts_here"] P_0 := ⟨_, _, c_0, PySem.W.mg_of X G a19, F_0, G_0.binds fun _ _ _ _ _ _ us hl => match us, hl with | [_, _, _], _ => rfl, TB (c_0, P_0) List.mem_cons_self⟩
    exact law_g TM TH (RZ base) O0 FL
end KC
open PySem PySem.W PyProof.Rows L2 in
set_option maxRecDepth 100000 in
set_option maxHeartbeats 0 in
theorem PySem.Challenge.cw_headgap_k17_steps_tails_and_states_told_holds : PySem.Challenge.rw_headgap_k17_steps_tails_and_states_told.Holds := by
  w_on; o_law; k_head; (case hw => w_witness2)
  k_fill
  refine L2.walk_ofTG (n := 63) (k := 12) (x := "_law_script") ["_law_refused_right"]
    (l := PySem.Challenge.rw_headgap_k17_steps_tails_and_states_told) rfl (by decide) rfl ?R ⟨rfl, by decide, by decide⟩ (fun w h Y => PySem.W.km_in_of Y) ?F
  case R => kernel_rfl
  case F =>
    intro w mg fa h KX G hmg tbs
    refine' KC.fin_mk KX G hmg tbs ?c ?a0 ?l0 ?c0 ?k0 ?a1 ?l1 ?c1 ?k1 ?a2 ?l2 ?c2 ?k2 ?a3 ?l3 ?c3 ?k3 ?a4 ?l4 ?c4 ?k4 ?a5 ?l5 ?c5 ?k5 ?a6 ?l6 ?c6 ?k6 ?a7 ?l7 ?c7 ?k7 ?a8 ?l8 ?c8 ?k8 ?a9 ?l9 ?c9 ?k9 ?a10 ?l10 ?c10 ?k10 ?a11 ?l11 ?c11 ?k11 ?a12 ?l12 ?c12 ?k12 ?a13 ?l13 ?c13 ?k13 ?a14 ?l14 ?c14 ?k14 ?a15 ?l15 ?c15 ?k15 ?a16 ?l16 ?c16 ?k16 ?a17 ?l17 ?c17 ?k17 ?a18 ?l18 ?c18 ?k18 ?a19 ?l19 ?c19 ?k19 ?a20 ?l20 ?c20 ?k20 ?G0 ?G1 ?G2 ?G3 ?A ?N0 ?O0 ?N1 ?O1 ?I40 ?J40 ?l40 ?c40 ?k40 ?I41 ?J41 ?l41 ?c41 ?k41 ?I42 ?J42 ?Q42 ?l42 ?c42 ?k42 ?I43 ?J43 ?l43 ?c43 ?k43 ?I44 ?J44 ?l44 ?c44 ?k44 ?I45 ?J45 ?l45 ?c45 ?k45 ?A60 ?I60 ?T60 ?l60 ?c60 ?k60 ?A61 ?I61 ?T61 ?l61 ?c61 ?k61 ?A62 ?I62 ?T62 ?l62 ?c62 ?k62
    (case c => kernel_rfl)
    (case a0 => k_is)
    (case l0 => k_is)
    (case c0 => k_is)
    (case k0 => k_is)
    (case a1 => k_is)
    (case l1 => k_is)
    (case c1 => k_is)
    (case k1 => k_is)
    (case a2 => k_is)
    (case l2 => k_is)
    (case c2 => k_is)
    (case k2 => k_is)
    (case a3 => k_is)
    (case l3 => k_is)
    (case c3 => k_is)
    (case k3 => k_is)
    (case a4 => k_is)
    (case l4 => k_is)
    (case c4 => k_is)
    (case k4 => k_is)
    (case a5 => k_is)
    (case l5 => k_is)
    (case c5 => k_is)
    (case k5 => k_is)
    (case a6 => k_is)
    (case l6 => k_is)
    (case c6 => k_is)
    (case k6 => k_is)
    (case a7 => k_is)
    (case l7 => k_is)
    (case c7 => k_is)
    (case k7 => k_is)
    (case a8 => k_is)
    (case l8 => k_is)
    (case c8 => k_is)
    (case k8 => k_is)
    (case a9 => k_is)
    (case l9 => k_is)
    (case c9 => k_is)
    (case k9 => k_is)
    (case a10 => k_is)
    (case l10 => k_is)
    (case c10 => k_is)
    (case k10 => k_is)
    (case a11 => k_is)
    (case l11 => k_is)
    (case c11 => k_is)
    (case k11 => k_is)
    (case a12 => k_is)
    (case l12 => k_is)
    (case c12 => k_is)
    (case k12 => k_is)
    (case a13 => k_is)
    (case l13 => k_is)
    (case c13 => k_is)
    (case k13 => k_is)
    (case a14 => k_is)
    (case l14 => k_is)
    (case c14 => k_is)
    (case k14 => k_is)
    (case a15 => k_is)
    (case l15 => k_is)
    (case c15 => k_is)
    (case k15 => k_is)
    (case a16 => k_is)
    (case l16 => k_is)
    (case c16 => k_is)
    (case k16 => k_is)
    (case a17 => k_is)
    (case l17 => k_is)
    (case c17 => k_is)
    (case k17 => k_is)
    (case a18 => k_is)
    (case l18 => k_is)
    (case c18 => k_is)
    (case k18 => k_is)
    (case a19 => k_is)
    (case l19 => k_is)
    (case c19 => k_is)
    (case k19 => k_is)
    (case a20 => k_is)
    (case l20 => k_is)
    (case c20 => k_is)
    (case k20 => k_is)
    (case G0 => k_is)
    (case G1 => k_is)
    (case G2 => k_is)
    (case G3 => k_is)
    (case A => k_is)
    (case N0 => k_is)
    (case O0 => k_is)
    (case N1 => k_is)
    (case O1 => k_is)
    (case I40 => k_is)
    (case J40 => k_is)
    (case l40 => k_is)
    (case c40 => k_is)
    (case k40 => k_is)
    (case I41 => k_is)
    (case J41 => k_is)
    (case l41 => k_is)
    (case c41 => k_is)
    (case k41 => k_is)
    (case I42 => k_is)
    (case J42 => k_is)
    (case Q42 => k_is)
    (case l42 => k_is)
    (case c42 => k_is)
    (case k42 => k_is)
    (case I43 => k_is)
    (case J43 => k_is)
    (case l43 => k_is)
    (case c43 => k_is)
    (case k43 => k_is)
    (case I44 => k_is)
    (case J44 => k_is)
    (case l44 => k_is)
    (case c44 => k_is)
    (case k44 => k_is)
    (case I45 => k_is)
    (case J45 => k_is)
    (case l45 => k_is)
    (case c45 => k_is)
    (case k45 => k_is)
    (case A60 => k_is)
    (case I60 => k_is)
    (case T60 => k_is)
    (case l60 => k_is)
    (case c60 => k_is)
    (case k60 => k_is)
    (case A61 => k_is)
    (case I61 => k_is)
    (case T61 => k_is)
    (case l61 => k_is)
    (case c61 => k_is)
    (case k61 => k_is)
    (case A62 => k_is)
    (case I62 => k_is)
    (case T62 => k_is)
    (case l62 => k_is)
    (case c62 => k_is)
    (case k62 => k_is)
#print axioms PySem.Challenge.cw_headgap_k17_steps_tails_and_states_told_holds
