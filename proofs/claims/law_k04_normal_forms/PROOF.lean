import PyProof.Rows.All
import Wide.All
import OpenK.AllK
import Wide.FinOn
import HandS.ExcInit
import HandS.Words
import HandS.List
import KE.KExcIs
import PyProof.ReprRoads
import HandS.Ends
import HandS.ExcValue
import HandS.IsInst
import HandS.Property
import HandS.ClsMeth
import HandS.Gcd
import HandS.ForMost
import KE.DataMinMax
import KE.GoesMore
import HandS.Zip
import HandS.Walk
import HandS.Style
import PySem.Challenge.RW_headgap_k04_normal_forms
import HandS.SortKw
import HandS.Defaults
import KE.KOpsOwn
import PyProof.InstNe
import HandS.Wide
import HandS.OwnEq
import HandS.MakeKwOnly
import HandS.Iter
import HandS.Text
import HandS.DictComp
import PyProof.Draws
import PyProof.EnumMake
import HandS.TryOnly
import HandS.ExcField
import HandS.Lambda
import HandS.WordsExc
import HandS.MakeKw
import PyProof.CallFns
import KE.KDictDisplayH
import HandS.EndTab
import OpenK.KMeth
import HandS.DeepEq
import KE.KEqNest
import HandS.Star
import OpenK.KOps
import PyProof.EqKinds
import PyProof.ListStr
import HandS.TupAny
import KE.KEqDeep
import KE.KMathGC
import KE.KCallOwn
import PyProof.FitsInt
import PyProof.StrLaws
set_option Elab.async false
set_option linter.all false
set_option maxRecDepth 100000
set_option maxHeartbeats 4000000
namespace PySem
end PySem
namespace L2
open PySem PySem.Spec PyProof.Rows
end L2
namespace L2
open PySem PySem.Spec PyProof.Rows
end L2
namespace L2
open PySem PySem.Spec PyProof.Rows
/-- as FnOk, for callers that have no repr under way -/
structure FnG (P : Program) (w : World) (K : PySem.W.Frag) (mg : Str → Option Value) (base : Heap) (CX : CXT)
    (k : Nat) (f : Addr) (fd : FuncData) (ps : List Str) (sp : Sp) : Prop where
  len : ∀ vs H Q E, sp vs H Q E → vs.length = ps.length
  run : ∀ (A : Around) (outer : List Env) (s : Shared) (H : Hp) (args : Args) (us : List Value) (vs : List V)
    (Q : VK) (E : XK), A.guards = some [] → Room k A → Env0 P w K mg base A outer s H →
    BindsTo s fd args (ps.zip us) → Vals vs us → sp vs H Q E →
    codeAny (model P w) A (.call (.ref f) args) (CR CX outer P w H s Q E) s
section
variable {P : Program} {w : World} {K : PySem.W.Frag} {mg : Str → Option Value} {base : Heap} {CX : CXT} {k : Nat}
  {f : Addr} {fd : FuncData} {ps : List Str} {sp : Sp}
theorem FnOk.g (F : FnOk P w K mg base CX k f fd ps sp) : FnG P w K mg base CX k f fd ps sp :=
  ⟨F.len, fun A outer s H args us vs Q E _ hr he hb hv hs => F.run A outer s H args us vs Q E hr he hb hv hs⟩
theorem FnG.mono {j : Nat} (F : FnG P w K mg base CX j f fd ps sp) (h : j ≤ k) : FnG P w K mg base CX k f fd ps sp :=
  ⟨F.len, fun A outer s H args us vs Q E hg hr => F.run A outer s H args us vs Q E hg (hr.mono h)⟩
/-- the rule for a def, guards known -/
theorem Fun.okG {x qual : Str} {st : Stmt} {N : List Str} (F : Fun K x qual st f fd) (S : FnScope N ps (defScope st))
    (len : ∀ vs H Q E, sp vs H Q E → vs.length = ps.length)
    (hbody : ∀ (cdv : Value) (A : Around) (outer : List Env) (s : Shared) (H : Hp) (vs : List V) (Q : VK) (E : XK),
      (A.deeper (envOfC qual (defScope st) s.heap.objs.size f cdv)).guards = some [] →
      Room k (A.deeper (envOfC qual (defScope st) s.heap.objs.size f cdv)) → sp vs H Q E →
      ∃ t, PSs (cxOf CX0 P w K mg base N qual (defScope st) f cdv A outer s H E).nox (defBody st) t ∧
        t { nx := fun _ H' => Q .non H', rt := Q } (start N vs) H) :
    FnG P w K mg base CX0 (k + 1) f fd ps sp := by
  obtain ⟨oc, od, kV, doc, pm, an, cdv, ct, osl, rfl, lk, hcd⟩ := F.ex
  refine ⟨len, fun A outer s H args us vs Q E hg hr e0 hb r hsp => ?_⟩
  have hl := len _ _ _ _ hsp
  have KX : K.In s.heap := e0.mod.kin.keeps fun b o e => (e0.bs b o e).1
  have lim : s.heap.NoLimit := e0.mod.nolimit.keeps fun b o e => (e0.bs b o e).1
  have kinds : ∀ y ∈ ps.zip us, (defScope st).names.lookup y.1 = some .local ∨
      ((defScope st).names.lookup y.1 = some .cell ∧
        ((cellsFrom (s.heap.objs.size + 1) (defScope st).names []).lookup y.1).isSome = true) := by
    rintro ⟨n, v⟩ hy
    rcases S.par n (List.of_mem_zip hy).1 with q | q
    · exact .inl q
    · exact .inr ⟨q, PySem.W.cellsFrom_some _ _ _ (.inl q)⟩
  refine codeAny_call_function hr.depth (KX _ _ lk) rfl S.co S.gen rfl (PySem.W.codeRec_of KX hcd) (hb _ _ _ _ ?_)
  refine wpAny_newFunctionEnv_cells S.kind kinds fun env he s1 x => ?_
  subst he
  refine ⟨lim.keeps x.toInCall.keep, codeAny_func ?_⟩
  have hg' : (A.deeper (envOfC qual (defScope st) s.heap.objs.size f cdv)).guards = some [] := by
    first
      | exact hg
      | simpa [Around.deeper] using hg
  obtain ⟨t, ht0, hq⟩ := hbody cdv A outer s H vs Q E hg' (hr.deeper _) hsp
  have ht := ht0.nox
  have I : Inv (cxOf CX0 P w K mg base N qual (defScope st) f cdv A outer s H E) [] (start N vs) H s1 :=
    inv_start S hr.hd e0 hl r x
  refine wpAny_mono (ht.run [] s1 (start N vs) H _ I hq) (fun fl s' hs => ?_) fun e s' hs => hs
  have fin : ∀ {σ' : St} {H' : Hp} {v : V} {u : Value},
      Inv (cxOf CX0 P w K mg base N qual (defScope st) f cdv A outer s H E) [] σ' H' s' → RelV v u → Q v H' →
      CE outer P w H s Q u s' := fun J rv q => ⟨_, _, J.os, J.bare, J.base, J.hok, rv, q⟩
  cases fl with
  | ret u =>
    obtain ⟨v, σ', H', J, rv, q⟩ := hs
    exact fin J rv q
  | next =>
    obtain ⟨σ', H', J, q⟩ := hs
    exact fin (v := V.non) (u := Value.none) J rfl q
  | brk =>
    obtain ⟨_, _, _, q⟩ := hs
    exact False.elim q
  | cont =>
    obtain ⟨_, _, _, q⟩ := hs
    exact False.elim q
end
/-- the law's call, from such a promise -/
theorem law_callG {P : Program} {w : World} {K : PySem.W.Frag} {mg mb : Str → Option Value} {k : Nat} {fa a : Addr}
    {fd : FuncData} {x : Str} {sp : Sp} {s1 : Shared} {vs : List Value} {ns : List Int}
    (KX : K.In s1.heap) (hns : s1.heap.Ns mainGlobals mg) (hb : s1.heap.Ns builtinsNs mb)
    (hbb : ∀ y : Str, y ≠ "__name__" → mb y = bootBuiltins y) (hlim : s1.heap.NoLimit) (hg : s1.gens = #[])
    (ha : s1.heap.get? a = some { cls := .type "list", data := .seq vs.toArray }) (hi : IntsAre vs ns)
    (hl : ns.length ≤ sizeLine) (hr : Room k callerA)
    (F : ∀ base : Heap, K.In base → base.Ns mainGlobals mg → FnG P w K mg base CX0 k fa fd [x] sp)
    (hbind : ∀ (s : Shared) (u : Value), BindsTo s fd ⟨[u], []⟩ [(x, u)])
    (hsp : ∀ H : Hp, Only H → SqL K H a (ns.map V.int) → sp [.ref a] H (fun v _ => v = .bl true) E0) :
    codeAny (model P w) callerA (.call (.ref fa) ⟨[.ref a], []⟩)
      (fun r s' => r = .ok (.ret (.bool true)) ∧ OldK s1.heap s'.heap ∧ s'.os = s1.os ∧ AllBare s'.gens) s1 := by
  have rv := vals_ints hi
  have lenV := hi.length
  have core : ∀ H : Hp, Only H → SqL K H a (ns.map V.int) → HOk P w H s1.heap → (∀ b, H b ≠ none → b = a) →
      (H a ≠ none → K.lookup a = none) → codeAny (model P w) callerA (.call (.ref fa) ⟨[.ref a], []⟩)
        (fun r s' => r = .ok (.ret (.bool true)) ∧ OldK s1.heap s'.heap ∧ s'.os = s1.os ∧ AllBare s'.gens) s1 := by
    intro H hO hS hok hA hK
    have atA : ∀ {b : Addr} {u : HO}, H b = some u → b = a := fun {b u} q => hA b (by rw [q]; simp)
    have noA : ∀ {b : Addr} {o : Obj} {es : Array DictEntry} {ep : Nat}, s1.heap.get? b = some o →
        o.data = .dict es ep → H b = none := by
      intro b o es ep e d
      cases q : H b with
      | none => rfl
      | some u =>
        obtain rfl := atA q
        rw [ha] at e
        cases e
        have d' : Data.seq vs.toArray _ = Data.dict es ep := d
        cases d'
    have nsK : ∀ {b : Addr} {m : Str → Option Value}, s1.heap.Ns b m → (hidT s1.heap H).Ns b m := by
      rintro b m ⟨o, es, ep, e, d, r⟩
      exact ⟨o, es, ep, hidT_get e (noA e d), d, r⟩
    have hKb : K.In (hidT s1.heap H) := by
      intro b o e
      refine hidT_get (KX b o e) ?_
      cases q : H b with
      | none => rfl
      | some u =>
        obtain rfl := atA q
        rw [hK (by rw [q]; simp)] at e
        cases e
    have lim' : (hidT s1.heap H).NoLimit := by
      obtain ⟨mc, h1, h2⟩ := hlim
      exact ⟨mc, nsK h1, h2⟩
    have hM : Mod K mg (hidT s1.heap H) := ⟨hKb, nsK hns, ⟨mb, nsK hb, hbb⟩, lim'⟩
    have e0 : Env0 P w K mg (hidT s1.heap H) callerA [] s1 H :=
      ⟨rfl, hM, fun b o e => of_hidT e, Nat.le_of_eq (hidT_size _ _), trivial,
        fun b hb => absurd (show b ∈ ([] : List Addr) from hb) (by simp), hok, .of_eq hg⟩
    refine codeAny_mono ((F _ hKb (nsK hns)).run callerA [] s1 H ⟨[.ref a], []⟩ [.ref a] [.ref a] _ _ rfl hr e0
      (hbind s1 (.ref a)) (.cons rfl .nil) (hsp H hO hS)) fun r s' h => ?_
    cases r with
    | error e => exact h.elim
    | ok fl =>
      cases fl with
      | next => exact False.elim h
      | brk => exact False.elim h
      | cont => exact False.elim h
      | ret u =>
        obtain ⟨v, H', os, bare, un, hok', r', q⟩ := h
        have q' : v = .bl true := q
        subst q'
        obtain rfl : u = Value.bool true := r'
        refine ⟨rfl, OldK.of_keep fun b o e => ?_, os, bare⟩
        have nil : b ∉ frs [] := fun z => absurd (show b ∈ ([] : List Addr) from z) (by simp)
        cases q : H b with
        | none => exact un.keep b o e q nil (by simp)
        | some u =>
          rcases hO b with z | ⟨ob, xs, z⟩
          · rw [q] at z
            cases z
          · have z2 := un.frzs b ob _ z
            obtain ⟨e1, _⟩ := hok b _ z
            obtain ⟨e2, _⟩ := hok' b _ z2
            rw [e] at e1
            cases e1
            exact e2
  cases hk : K.lookup a with
  | some o =>
    have e := KX a o hk
    rw [ha] at e
    cases e
    have ok0 : HOk P w (fun _ => none) s1.heap := fun b u z => by
      have z' : (none : Option HO) = some u := z
      cases z'
    refine core (fun _ => none) (fun _ => .inl rfl) (.inr ⟨_, vs.toArray, _, hk, rfl, rfl, rfl, ?_, ?_⟩) ok0
      (fun b z => absurd rfl z) fun z => absurd rfl z
    · rw [List.size_toArray, lenV]
      exact hl
    · simpa using rv
  | none =>
    let o1 : Obj := { cls := .type "list", data := .seq vs.toArray }
    refine core (fun b => if b = a then some (.frz o1 (.lst (ns.map V.int))) else none) (fun b => ?_)
      (.inl (.inr ⟨o1, if_pos rfl⟩)) (fun b u z => ?_) (fun b z => ?_) fun _ => hk
    · by_cases hb : b = a
      · exact .inr ⟨_, _, if_pos hb⟩
      · exact .inl (if_neg hb)
    · by_cases hb : b = a
      · have z' := (if_pos hb).symm.trans z
        cases z'
        subst hb
        exact ⟨ha, by rw [List.length_map]; exact hl, vs, _, rv, ha⟩
      · have z' := (if_neg hb).symm.trans z
        cases z'
    · by_cases hb : b = a
      · exact hb
      · exact absurd (if_neg hb) z
theorem walk_ofG {l : PySem.W.OpenLaw} {n k : Nat} {q : Program} {loose : List Str}
    {XP : (Str → Option Value) → Heap → Prop} {YP : World → Heap → Prop} {d : DefRec} {K : Params → PySem.W.Frag}
    {sp : PySem.W.Frag → Sp} {x : Str} (hn : l.most = some n) (hn2 : n ≤ sizeLine) (hdf : d.params.defaults = [])
    (hr : Room k callerA) (hY : ∀ (w : World) (h : Heap), YP w h → (K w.params).In h)
    (F : ∀ (w : World) (mg : Str → Option Value) (fa : Addr) (h : Heap), (K w.params).In h → h.Ns mainGlobals mg →
      mg d.name = some (.ref fa) → ∃ fd : FuncData, (∀ (s : Shared) (u : Value), BindsTo s fd ⟨[u], []⟩ [(x, u)]) ∧
        ∀ base : Heap, (K w.params).In base → base.Ns mainGlobals mg →
          FnG l.prog w (K w.params) mg base CX0 k fa fd [x] (sp (K w.params)))
    (hsp : ∀ (K : PySem.W.Frag) (H : Hp) (a : Addr) (ns : List Int), ns.length ≤ n → Only H →
      SqL K H a (ns.map V.int) → sp K [.ref a] H (fun v _ => v = .bl true) E0) :
    PySem.W.WalkO q loose XP YP l.row.toRowW d [] (fun f vs => PySem.call f vs) := by
  refine Att.attach_call hn hdf fun w s0 s1 mg mb fa o pm cd doc a vs ns G Y ho hd hcd hmg hobj hints hlen hg => ?_
  have KX := hY w _ Y
  obtain ⟨fd, hb, hF⟩ := F w mg fa _ KX G.T.g hmg
  exact law_callG KX G.T.g G.T.b G.T.builtins G.T.nolimit hg hobj hints (Nat.le_trans hlen hn2) hr hF hb
    fun H hO hS => hsp (K w.params) H a ns hlen hO hS
end L2
namespace L2
open PySem PySem.Spec PyProof.Rows
/-- the address of what a module's name holds -/
def adr (mg : Str → Option Value) (x : Str) : Addr := match mg x with
  | some (.ref a) => a
  | _ => 0
theorem adr_of {mg : Str → Option Value} {x : Str} {a : Addr} (h : mg x = some (.ref a)) : adr mg x = a := by
  unfold adr
  rw [h]
/-- a def of the top, by its name -/
def OwnD (K : PySem.W.Frag) (mg : Str → Option Value) (x : Str) (st : Stmt) (ps : List Str) : Prop :=
  ∃ f fd, mg x = some (.ref f) ∧ Fun K x x st f fd ∧ Binds K fd ps []
/-- what a def of the top keeps -/
def Kp (P : Program) (w : World) (K : PySem.W.Frag) (mg : Str → Option Value) (base : Heap) (k : Nat) (x : Str)
    (ps : List Str) (sp : Sp) : Prop :=
  ∃ f fd, mg x = some (.ref f) ∧ PySem.W.keepIn K (.ref f) = true ∧ Binds K fd ps [] ∧
    FnG P w K mg base CX0 k f fd ps sp
section
variable {P : Program} {w : World} {K : PySem.W.Frag} {mg : Str → Option Value} {base : Heap}
theorem OwnD.ok {x : Str} {st : Stmt} {N ps : List Str} {k : Nat} {sp : Sp} (O : OwnD K mg x st ps)
    (S : FnScope N ps (defScope st)) (len : ∀ vs H Q E, sp vs H Q E → vs.length = ps.length)
    (hbody : ∀ (f : Addr) (cdv : Value) (A : Around) (outer : List Env) (s : Shared) (H : Hp) (vs : List V) (Q : VK)
      (E : XK), (A.deeper (envOfC x (defScope st) s.heap.objs.size f cdv)).guards = some [] →
      Room k (A.deeper (envOfC x (defScope st) s.heap.objs.size f cdv)) → sp vs H Q E →
      ∃ t, PSs (cxOf CX0 P w K mg base N x (defScope st) f cdv A outer s H E).nox (defBody st) t ∧
        t { nx := fun _ H' => Q .non H', rt := Q } (start N vs) H) :
    Kp P w K mg base (k + 1) x ps sp := by
  obtain ⟨f, fd, hm, F, b⟩ := O
  exact ⟨f, fd, hm, F.kp, b, F.okG S len fun cdv A outer s H vs Q E hg hr h => hbody f cdv A outer s H vs Q E hg hr h⟩
theorem own_mk {h : Heap} {x : Str} {st : Stmt} {ps : List Str} {f : Addr} {od an : Option Addr}
    {sl : Array (Option Value)} {oc kV dc pm cd ct : Value} (X : K.In h) (G : h.Ns mainGlobals mg)
    (a : PySem.W.nsIn K mainGlobals x = some (some (.ref f)))
    (l : K.lookup f = some ⟨oc, od, .func (PySem.W.fnOf x x (defArgs st) (defBody st) (defScope st) .none kV dc pm an cd ct), sl⟩)
    (c : PySem.W.codeIn K cd x = true) (k : PySem.W.keepIn K (.ref f) = true)
    (b : ∀ (kV doc pm : Value) (an : Option Addr) (cdv ct : Value) (us : List Value), us.length = ps.length →
      bindArgs (PySem.W.fnOf x x (defArgs st) (defBody st) (defScope st) .none kV doc pm an cdv ct) ⟨us, []⟩ =
        pure (ps.zip us)) : OwnD K mg x st ps :=
  have F := fun_mk (st := st) l c k
  ⟨f, _, PySem.W.mg_of X G a, F, F.binds b⟩
end
end L2
namespace L2
open PySem PySem.Spec PyProof.Rows
section
variable {X : Cx}
theorem fmod_bd {i j : Int} (h : 0 < j) : 0 ≤ i.fmod j ∧ i.fmod j < j := by
  rw [Int.fmod_eq_emod_of_nonneg _ (by omega)]
  exact ⟨Int.emod_nonneg _ (by omega), Int.emod_lt_of_pos _ h⟩
/-- a % b, some number below b -/
def rModW : R2 := fun x y H Q => ∃ i j, x = .int i ∧ y = .int j ∧ 0 < j ∧ ∀ r, 0 ≤ r → r < j → Q (.int r) H
theorem op_modW : OpR X (binaryOp .Mod) rModW := by
  intro pins s σ H x y v u Q I rx ry h
  obtain ⟨i, j, ex, ey, hj, h⟩ := h
  exact op_modN pins s σ H x y v u Q I rx ry ⟨i, j, ex, ey, by omega, h _ (fmod_bd hj).1 (fmod_bd hj).2⟩
/-- a // b, the quotient with its rest -/
def rDivW : R2 := fun x y H Q => ∃ i j, x = .int i ∧ y = .int j ∧ 0 < j ∧ j < 1073741824 ∧
  ∀ q r, i = j * q + r → 0 ≤ r → r < j → Q (.int q) H
theorem op_divW : OpR X (binaryOp .FloorDiv) rDivW := by
  intro pins s σ H x y v u Q I rx ry h
  obtain ⟨i, j, ex, ey, hj, h2, h⟩ := h
  have b := fmod_bd (i := i) hj
  refine op_fdivN pins s σ H x y v u Q I rx ry ⟨i, j, ex, ey, ⟨by omega, by omega⟩, h _ _ ?_ b.1 b.2⟩
  have e := Int.fmod_add_mul_fdiv i j
  omega
/-- a ** b, some number -/
def rPowW : R2 := fun x y H Q => ∃ i j, x = .int i ∧ y = .int j ∧ 0 ≤ j ∧ j ≤ 1000000 ∧ i.natAbs < 2 ^ 64 ∧
  ∀ z, Q (.int z) H
theorem op_powW : OpR X (binaryOp .Pow) rPowW := by
  intro pins s σ H x y v u Q I rx ry h
  obtain ⟨i, j, ex, ey, h1, h2, h3, h⟩ := h
  exact op_pow pins s σ H x y v u Q I rx ry ⟨i, j, ex, ey, ⟨h1, h2, h3⟩, h _⟩
/-- a * b, as a letter with its equation -/
def rMulW : R2 := fun x y H Q => ∃ i j, x = .int i ∧ y = .int j ∧ ((-(2 ^ 64) < i ∧ i < 2 ^ 64) ∨ (-(2 ^ 64) < j ∧ j < 2 ^ 64)) ∧
  ∀ z, z = i * j → Q (.int z) H
theorem op_mulW' : OpR X (binaryOp .Mult) rMulW := by
  intro pins s σ H x y v u Q I rx ry h
  obtain ⟨i, j, ex, ey, h1, h⟩ := h
  exact op_mul pins s σ H x y v u Q I rx ry ⟨i, j, ex, ey, h1, h _ rfl⟩
/-- int(n), n an int -/
theorem call_intI : CallR X (.type "int") (fun xs H Q => ∃ i, xs = [.int i] ∧ Q (.int i) H) := by
  intro pins s σ H xs us Q I r h
  obtain ⟨i, e, h⟩ := h
  exact call_int1 pins s σ H xs us Q I r (.inl ⟨i, e, h⟩)
/-- int(b), b a bool: 0 or 1 -/
theorem call_intB : CallR X (.type "int") (fun xs H Q => ∃ b, xs = [.bl b] ∧ ∀ i, 0 ≤ i → i ≤ 1 → Q (.int i) H) := by
  intro pins s σ H xs us Q I r h
  obtain ⟨b, e, h⟩ := h
  refine call_int1 pins s σ H xs us Q I r (.inr ⟨b, e, h _ ?_ ?_⟩)
  · cases b <;> decide
  · cases b <;> decide
end
theorem upd_new {H : Hp} {p q : Addr} {o u : HO} (hn : H p = none) (h : H q = some o) : upd H p u q = some o :=
  (upd_ne (ne_of_none h hn)).trans h
theorem upd_oth {H : Hp} {p q : Addr} {o u : HO} (hn : q ≠ p) (h : H q = some o) : upd H p u q = some o :=
  (upd_ne hn).trans h
theorem sq_new {K : PySem.W.Frag} {H : Hp} {p c : Addr} {u : HO} {xs : List V} (hn : H p = none) (h : SqL K H c xs) :
    SqL K (upd H p u) c xs := by
  rcases h with (h | ⟨o, h⟩) | h
  · exact .inl (.inl (upd_new hn h))
  · exact .inl (.inr ⟨o, upd_new hn h⟩)
  · exact .inr h
theorem Same.new {H : Hp} {p : Addr} {u : HO} (hn : H p = none) : Same H (upd H p u) := fun b o e => upd_new hn e
theorem at_map {ns : List Int} {r : Int} (h0 : 0 ≤ r) (h1 : r < (ns.length : Int)) :
    ∃ x, atI (ns.map V.int) r = some (.int x) := by
  have hl : r.toNat < ns.length := by omega
  refine ⟨ns[r.toNat], ?_⟩
  unfold atI ixN
  rw [List.length_map, if_pos h0, if_pos h1]
  simp [List.getElem?_eq_getElem hl]
theorem at_in {α : Type} {xs : List α} {r : Int} (h0 : 0 ≤ r) (h1 : r < (xs.length : Int)) :
    ∃ x, atI xs r = some x ∧ x ∈ xs := by
  have hl : r.toNat < xs.length := by omega
  refine ⟨xs[r.toNat], ?_, List.getElem_mem _⟩
  unfold atI ixN
  rw [if_pos h0, if_pos h1]
  simp [List.getElem?_eq_getElem hl]
/-- data of a list of ints -/
theorem dp_ints {K : PySem.W.Frag} {H : Hp} : ∀ ns : List Int, DpAll K H (ns.map V.int) (ns.map PyData.int)
  | [] => .nil
  | n :: ns => .cons (.int n) (dp_ints ns)
/-- a statement and what follows it, met at a word -/
def tMid (t u : TS) : TS := fun D σ H => ∃ W : St → Hp → Prop, t { D with nx := W } σ H ∧ ∀ σ1 H1, W σ1 H1 → u D σ1 H1
theorem pss_mid {X : Cx} {st : Stmt} {rest : List Stmt} {t u : TS} (a : PS X st t) (b : PSs X rest u) :
    PSs X (st :: rest) (tMid t u) := by
  constructor
  intro pins s σ H D I h
  obtain ⟨W, hw, hu⟩ := h
  refine wpAny_execs_cons (thn (a.run pins s σ H { D with nx := W } I hw) fun f s1 z => ?_)
  cases f with
  | next =>
    obtain ⟨σ1, H1, I1, z⟩ := z
    exact b.run pins s1 σ1 H1 D I1 (hu σ1 H1 z)
  | ret v => exact z
  | brk => exact z
  | cont => exact z
theorem len_lst {K : PySem.W.Frag} {H : Hp} {c : Addr} {xs : List V} (h : H c = some (.lst xs)) :
    LenV K (.ref c) H xs.length := .inl ⟨xs, SqL.of h, rfl⟩
theorem len_sq {K : PySem.W.Frag} {H : Hp} {c : Addr} {xs : List V} (h : SqL K H c xs) :
    LenV K (.ref c) H xs.length := .inl ⟨xs, h, rfl⟩
end L2
namespace L2
open PySem PySem.Spec PyProof.Rows
theorem PE.imp {X : Cx} {e : Expr} {t t' : TE} (h : PE X e t) (k : ∀ σ H Q, t' σ H Q → t σ H Q) : PE X e t' :=
  ⟨fun pins s σ H Q I q => h.run pins s σ H Q I (k σ H Q q)⟩
/-- all but what stands at p is as it was -/
def But (p : Addr) (H H' : Hp) : Prop := ∀ b, b ≠ p → ∀ o, H b = some o → H' b = some o
theorem But.trans {p : Addr} {H H1 H2 : Hp} (a : But p H H1) (b : But p H1 H2) : But p H H2 :=
  fun c hc o e => b c hc o (a c hc o e)
/-- an error object, its fields the last one first -/
def XV (H : Hp) (a C : Addr) (fs : List (Str × V)) : Prop :=
  (fs = [] ∧ H a = some (exo a C none)) ∨ ∃ dx, H a = some (exo a C (some dx)) ∧ H dx = some (exd dx fs)
theorem XV.same {H H' : Hp} {a C : Addr} {fs : List (Str × V)} (h : XV H a C fs) (s : Same H H') : XV H' a C fs := by
  rcases h with ⟨e, h⟩ | ⟨dx, h, g⟩
  · exact .inl ⟨e, s _ _ h⟩
  · exact .inr ⟨dx, s _ _ h, s _ _ g⟩
end L2
namespace L2
open PySem PySem.Spec PyProof.Rows
def kd : Key → PyData
  | .inl i => .int i
  | .inr x => .str x
mutual
/-- what a value is as data; dicts by int and text keys -/
inductive Dq (K : PySem.W.Frag) (H : Hp) : V → PyData → Prop
  | non : Dq K H .non .none
  | bl (b : Bool) : Dq K H (.bl b) (.bool b)
  | int (i : Int) : Dq K H (.int i) (.int i)
  | str (x : Str) : Dq K H (.str x) (.str x)
  | lst {a : Addr} {xs : List V} {ds : List PyData} : SqL K H a xs → DqAll K H xs ds → Dq K H (.ref a) (.list ds)
  | tup {a : Addr} {xs : List V} {ds : List PyData} : SqT K H a xs → DqAll K H xs ds → Dq K H (.ref a) (.tuple ds)
  | dic {a : Addr} {kvs : List (Key × V)} {ds : List (PyData × PyData)} : H a = some (.dK kvs) → DqKv K H kvs ds →
      Dq K H (.ref a) (.dict ds)
inductive DqAll (K : PySem.W.Frag) (H : Hp) : List V → List PyData → Prop
  | nil : DqAll K H [] []
  | cons {v : V} {vs : List V} {d : PyData} {ds : List PyData} : Dq K H v d → DqAll K H vs ds →
      DqAll K H (v :: vs) (d :: ds)
inductive DqKv (K : PySem.W.Frag) (H : Hp) : List (Key × V) → List (PyData × PyData) → Prop
  | nil : DqKv K H [] []
  | cons {k : Key} {v : V} {vs : List (Key × V)} {d : PyData} {ds : List (PyData × PyData)} : Dq K H v d →
      DqKv K H vs ds → DqKv K H ((k, v) :: vs) ((kd k, d) :: ds)
end
end L2
namespace L2
open PySem PySem.Spec PyProof.Rows
/-- a list or a tuple -/
def SqS (K : PySem.W.Frag) (H : Hp) (a : Addr) (xs : List V) : Prop := SqL K H a xs ∨ SqT K H a xs
def iSeq (K : PySem.W.Frag) (tl : TE) : TI := fun σ H R => tl σ H fun x H1 => ∃ a, x = .ref a ∧
  (((∃ xs, SqL K H1 a xs) ∧ R (Itl K a) H1) ∨ ((∃ xs, SqT K H1 a xs) ∧ R (Itt K a) H1))
section
variable {X : Cx} {tg : Expr}
theorem pi_seq {l : Expr} {tl : TE} (hl : PE X l tl) : PI X tg l (iSeq X.K tl) := by
  refine ⟨fun pins s σ H R I h => ?_⟩
  refine thn (hl.run pins s σ H _ I h) fun v s1 ⟨x, H1, I1, r1, q1⟩ => ?_
  obtain ⟨a, e, q1⟩ := q1
  subst e
  cases r1
  have fp : ∀ b ∈ [s1.heap.objs.size], FpOk X pins H1 b := fun b hb => by
    obtain rfl : b = s1.heap.objs.size := by simpa using hb
    exact I1.fpOk (Nat.le_refl _) (I1.hok.fresh (Nat.le_refl _))
  rcases q1 with ⟨⟨xs, hq⟩, q⟩ | ⟨⟨xs, hq⟩, q⟩
  · obtain ⟨its, rv, p, _⟩ := I1.list hq
    refine wpAny_pyIter_list p.isList ?_
    exact ⟨s1.heap.objs.size, [s1.heap.objs.size], _, _, H1, rfl,
      I1.kept (t' := s1.toks) (fun b o e => Heap.get?_push_of_some _ e), turn_list a _,
      ⟨_, Heap.get?_push_size _ rfl, rfl, rfl⟩, fp, q⟩
  · obtain ⟨its, rv, p, _⟩ := I1.tuple hq
    refine wpAny_pyIter_tuple (show s1.heap.IsTuple a its.toArray from p) ?_
    exact ⟨s1.heap.objs.size, [s1.heap.objs.size], _, _, H1, rfl,
      I1.kept (t' := s1.toks) (fun b o e => Heap.get?_push_of_some _ e), turn_tuple a _,
      ⟨_, Heap.get?_push_size _ rfl, rfl, rfl⟩, fp, q⟩
end
theorem SqS.new {K : PySem.W.Frag} {H H' : Hp} {a : Addr} {xs : List V} (h : SqS K H a xs) (s : Same H H') : SqS K H' a xs := by
  rcases h with ((h | ⟨o, h⟩) | h) | ((h | ⟨o, h⟩) | h)
  · exact .inl (.inl (.inl (s _ _ h)))
  · exact .inl (.inl (.inr ⟨o, s _ _ h⟩))
  · exact .inl (.inr h)
  · exact .inr (.inl (.inl (s _ _ h)))
  · exact .inr (.inl (.inr ⟨o, s _ _ h⟩))
  · exact .inr (.inr h)
theorem SqS.len {K : PySem.W.Frag} {H : Hp} {a : Addr} {xs : List V} (h : SqS K H a xs) : LenV K (.ref a) H xs.length := by
  rcases h with h | h
  · exact .inl ⟨xs, h, rfl⟩
  · exact .inr ⟨xs, h, rfl⟩
end L2
namespace L2
open PySem PySem.Spec PyProof.Rows
/-- what a comprehension makes of its items: r by the turn and the item, none where a test leaves it out -/
def fm (r : Nat → V → Option V) : Nat → List V → List V
  | _, [] => []
  | i, x :: xs => (r i x).toList ++ fm r (i + 1) xs
theorem fm_len (r : Nat → V → Option V) : ∀ (xs : List V) (i : Nat), (fm r i xs).length ≤ xs.length
  | [], _ => Nat.le_refl _
  | x :: xs, i => by
    have := fm_len r xs (i + 1)
    unfold fm
    rw [List.length_append, List.length_cons]
    have : ((r i x).toList).length ≤ 1 := by cases r i x <;> simp
    omega
theorem fm_snoc (r : Nat → V → Option V) : ∀ (xs : List V) (x : V) (i : Nat),
    fm r i (xs ++ [x]) = fm r i xs ++ (r (i + xs.length) x).toList
  | [], x, i => by simp [fm]
  | y :: ys, x, i => by
    have e : i + 1 + ys.length = i + (y :: ys).length := by rw [List.length_cons]; omega
    show (r i y).toList ++ fm r (i + 1) (ys ++ [x]) = _
    rw [fm_snoc r ys x (i + 1), e, ← List.append_assoc]
    rfl
/-- one turn's parts -/
def Pure1 (r : Nat → V → Option V) (g : TG) (tt : TT) (te : TE) (vs : List Nat) (σ : St) (i : Nat) (x : V) (H : Hp) : Prop :=
  ∀ (Ky : VK) (Kn : Hp → Prop), (∀ y, r i x = some y → Ky y H) → (r i x = none → Kn H) →
    g x (wipe σ vs) H fun σ2 H2 => wipe σ2 vs = wipe σ vs ∧ tt σ2 H2 fun b H3 => if b = true then te σ2 H3 Ky else Kn H3
theorem pure_turn {r : Nat → V → Option V} {g : TG} {tt : TT} {te : TE} {vs : List Nat} {σ : St} {H1 : Hp} {D : Addr}
    {xs : List V} {i : Nat} {x : V} {Pv : Nat → Hp → Prop} (hx : xs[i]? = some x) (hz : xs.length ≤ sizeLine)
    (hP : ∀ j H, Pv j H ↔ H = upd H1 D (.lst (fm r 0 (xs.take j)))) {H : Hp} (hH : Pv i H)
    (h : Pure1 r g tt te vs σ i x H) :
    g x (wipe σ vs) H fun σ2 H2 => wipe σ2 vs = wipe σ vs ∧ tt σ2 H2 fun b H3 =>
      if b = true then te σ2 H3 fun y H4 => ∃ acc, H4 D = some (.lst acc) ∧ acc.length < sizeLine ∧
        Pv (i + 1) (upd H4 D (.lst (acc ++ [y]))) else Pv (i + 1) H3 := by
  have e := (hP i H).mp hH
  have hi : i < xs.length := (List.getElem?_eq_some_iff.mp hx).1
  have tk : xs.take (i + 1) = xs.take i ++ [x] := by
    rw [List.take_add_one, hx]
    rfl
  have l : (xs.take i).length = i := by rw [List.length_take]; omega
  have sn : fm r 0 (xs.take (i + 1)) = fm r 0 (xs.take i) ++ (r i x).toList := by
    rw [tk, fm_snoc, l, Nat.zero_add]
  refine h _ _ (fun y hy => ?_) fun hn => ?_
  · refine ⟨fm r 0 (xs.take i), by rw [e]; exact upd_same, ?_, (hP _ _).mpr ?_⟩
    · have := fm_len r (xs.take i) 0
      omega
    · rw [e, upd_upd, sn, hy]
      rfl
  · rw [hP, e, sn, hn]
    simp
section
variable {K : PySem.W.Frag} {a : Addr} {xs : List V} {r : Nat → V → Option V} {g : TG} {tt : TT} {te : TE}
  {vs : List Nat} {σ : St} {H : Hp} {Q : VK} {tl : TE}
theorem sqL_upd {H : Hp} {D : Addr} {u : HO} (h : SqL K H a xs) (hD : H D = none) : SqL K (upd H D u) a xs := sq_new hD h
theorem sqT_upd {H : Hp} {D : Addr} {u : HO} (h : SqT K H a xs) (hD : H D = none) : SqT K (upd H D u) a xs := by
  rcases h with (h | ⟨o, h⟩) | h
  · exact .inl (.inl (upd_new hD h))
  · exact .inl (.inr ⟨o, upd_new hD h⟩)
  · exact .inr h
/-- [.. for x in a list or a tuple] -/
theorem tlc_seq (hs : SqS K H a xs) (hz : xs.length ≤ sizeLine) (htl : ∀ R : VK, R (.ref a) H → tl σ H R)
    (ht : ∀ i x H', xs[i]? = some x → Same H H' → Pure1 r g tt te vs σ i x H')
    (hQ : ∀ D, H D = none → Q (.ref D) (upd H D (.lst (fm r 0 xs)))) : tLc (iSeq K tl) g tt te vs σ H Q := by
  rcases hs with hs | hs
  · exact htl _ ⟨a, rfl, .inl ⟨⟨xs, hs⟩, fun D hD => lc_list (K := K) (a := a) (xs := xs)
      (fun j H' => H' = upd H D (.lst (fm r 0 (xs.take j)))) rfl (fun i H' _ e => by rw [e]; exact sqL_upd hs hD)
      (fun i x H' hx e => pure_turn hx hz (fun _ _ => Iff.rfl) e (ht i x H' hx (by rw [e]; exact Same.new hD)))
      fun H' e => by rw [e, List.take_of_length_le (Nat.le_refl _)]; exact hQ D hD⟩⟩
  · exact htl _ ⟨a, rfl, .inr ⟨⟨xs, hs⟩, fun D hD => lc_tup (K := K) (a := a) (xs := xs)
      (fun j H' => H' = upd H D (.lst (fm r 0 (xs.take j)))) rfl (fun i H' _ e => by rw [e]; exact sqT_upd hs hD)
      (fun i x H' hx e => pure_turn hx hz (fun _ _ => Iff.rfl) e (ht i x H' hx (by rw [e]; exact Same.new hD)))
      fun H' e => by rw [e, List.take_of_length_le (Nat.le_refl _)]; exact hQ D hD⟩⟩
theorem SqS.ty {K : PySem.W.Frag} {H : Hp} {a : Addr} {xs : List V} (h : SqS K H a xs) :
    ∃ T : String, (T = "list" ∨ T = "tuple") ∧ TyX K H (.ref a) (.type T) := by
  rcases h with ((h | ⟨o, h⟩) | ⟨o, _, _, h, c, _⟩) | ((h | ⟨o, h⟩) | ⟨o, _, _, h, c, _⟩)
  · exact ⟨_, .inl rfl, .base (.lst h)⟩
  · exact ⟨_, .inl rfl, .base (.frz h)⟩
  · exact ⟨_, .inl rfl, .kList h c⟩
  · exact ⟨_, .inr rfl, .base (.tup h)⟩
  · exact ⟨_, .inr rfl, .fTuple h⟩
  · exact ⟨_, .inr rfl, .kTuple h c⟩
theorem kit_lt {K : PySem.W.Frag} {T : String} (h : T = "list" ∨ T = "tuple") :
    PySem.W.kitAny K (.type T) [.type "list", .type "tuple"] = some true := by
  rcases h with rfl | rfl
  · refine kitAny_cons (b := true) (kit_ty (by decide +kernel)) (fun z => by cases z) fun _ => rfl
  · refine kitAny_cons (b := false) (kit_ty (by decide +kernel)) (fun _ => ?_) fun z => by cases z
    exact kitAny_cons (b := true) (kit_ty (by decide +kernel)) (fun z => by cases z) fun _ => rfl
theorem fm_map (f : V → V) (r : Nat → V → Option V) (h : ∀ i x, r i x = some (f x)) :
    ∀ (xs : List V) (i : Nat), fm r i xs = xs.map f
  | [], _ => rfl
  | x :: xs, i => by
    unfold fm
    rw [h, fm_map f r h xs]
    rfl
theorem all_true (xs : List V) : fm (fun _ _ => some (V.bl true)) 0 xs = (xs.map fun _ => true).map V.bl := by
  rw [fm_map (fun _ => V.bl true) _ (fun _ _ => rfl), List.map_map]
  rfl
theorem yes_run {te : TE} {σ : St} {H : Hp} {Ky : VK} {Kn : Hp → Prop} (h : te σ H Ky) :
    tYes σ H fun b H3 => if b = true then te σ H3 Ky else Kn H3 := by
  show if true = true then te σ H Ky else Kn H
  rw [if_pos rfl]
  exact h
/-- a module's whole number -/
theorem pe_cst {X : Cx} {x : Str} {i : Int} {pos : Pos} (hg : Gl X x) (h : ∃ t, X.mg x = some (.int i t))
    (hd : (x == ("__debug__" : Str)) = false := by decide) : PE X (.Name x pos) (tC (.int i)) := by
  obtain ⟨t, e⟩ := h
  exact pe_glob hg e ⟨t, rfl⟩ hd
/-- the ints of a range -/
def rngV (lo : Int) (n : Nat) : List V := (List.range n).map fun (i : Nat) => V.int (lo + (i : Int))
theorem rngV_at {lo : Int} {n i : Nat} (h : i < n) : (rngV lo n)[i]? = some (.int (lo + (i : Int))) := by
  unfold rngV
  rw [List.getElem?_map, List.getElem?_range h]
  rfl
theorem rngV_len (lo : Int) (n : Nat) : (rngV lo n).length = n := by
  unfold rngV
  rw [List.length_map, List.length_range]
theorem lc_rng {lo : Int} {n : Nat} {D : Addr} {Qd : Hp → Prop} (hz : n ≤ sizeLine) (hD : H D = none)
    (ht : ∀ i H', i < n → Same H H' → Pure1 r g tt te vs σ i (.int (lo + (i : Int))) H')
    (hQ : Qd (upd H D (.lst (fm r 0 (rngV lo n))))) :
    ∃ W : Nat → Nat → Hp → Prop, (∃ m, W 0 m (upd H D (.lst []))) ∧ ∀ i m H, W i m H →
      ((Itr lo n).stop i H ∧ Qd H) ∨ ((Itr lo n).go i H ∧ ∃ Nx : Hp → Prop,
        (∀ H', Nx H' → ∃ m', m' < m ∧ W (i + 1) m' H') ∧ ∀ x H', (Itr lo n).yld i H x H' → g x (wipe σ vs) H'
          fun σ2 H2 => wipe σ2 vs = wipe σ vs ∧ tt σ2 H2 fun b H3 => if b = true then te σ2 H3 fun y H4 =>
            ∃ acc, H4 D = some (.lst acc) ∧ acc.length < sizeLine ∧ Nx (upd H4 D (.lst (acc ++ [y]))) else Nx H3) := by
  refine lc_range (lo := lo) (n := n) (fun j H' => H' = upd H D (.lst (fm r 0 ((rngV lo n).take j)))) rfl
    (fun i H' hi e => ?_) fun H' e => ?_
  · exact pure_turn (xs := rngV lo n) (rngV_at hi) (by rw [rngV_len]; exact hz) (fun _ _ => Iff.rfl) e
      (ht i H' hi (by rw [e]; exact Same.new hD))
  · rw [e, List.take_of_length_le (by rw [rngV_len]; exact Nat.le_refl _)]
    exact hQ
end
end L2
namespace L2
open PySem PySem.Spec PyProof.Rows
theorem cut_from (xs : List V) (b : Nat) : cutV xs (some (b : Int)) none = xs.drop b := by
  have q : cutV xs (some (b : Int)) none = (xs.drop (HT.sIx xs.length 0 (some (b : Int)))).take
      (HT.sIx xs.length xs.length none - HT.sIx xs.length 0 (some (b : Int))) := rfl
  rw [q, HT.sIx_nat, HT.sIx_none]
  by_cases h : b ≤ xs.length
  · rw [Nat.min_eq_left h, List.take_of_length_le]
    rw [List.length_drop]
    exact Nat.le_refl _
  · rw [Nat.min_eq_right (by omega), List.drop_of_length_le (by omega), List.drop_of_length_le (by omega)]
    simp
theorem cut_to (xs : List V) (k : Nat) : cutV xs none (some (k : Int)) = xs.take k := by
  have q : cutV xs none (some (k : Int)) = (xs.drop (HT.sIx xs.length 0 none)).take
      (HT.sIx xs.length xs.length (some (k : Int)) - HT.sIx xs.length 0 none) := rfl
  rw [q, HT.sIx_nat, HT.sIx_none, List.drop_zero]
  by_cases h : k ≤ xs.length
  · rw [Nat.min_eq_left h]
    rfl
  · rw [Nat.min_eq_right (by omega), List.take_of_length_le (by omega), List.take_of_length_le (by omega)]
theorem fm_idx (r : Nat → V → Option V) (f : Nat → V) (h : ∀ i x, r i x = some (f i)) : ∀ (xs : List V) (k : Nat),
    fm r k xs = (List.range xs.length).map fun i => f (k + i)
  | [], _ => rfl
  | x :: xs, k => by
    unfold fm
    rw [h, fm_idx r f h xs (k + 1), List.length_cons, List.range_succ_eq_map]
    simp only [Option.toList, List.singleton_append, List.map_cons, List.map_map]
    congr 1
    apply List.map_congr_left
    intro i _
    show f (k + 1 + i) = f (k + (i + 1))
    congr 1
    omega
end L2
namespace L2
open PySem PySem.Spec PyProof.Rows
/-- what a def of the top keeps, whatever its guards are -/
def Kf (P : Program) (w : World) (K : PySem.W.Frag) (mg : Str → Option Value) (base : Heap) (k : Nat) (x : Str)
    (ps : List Str) (sp : Sp) : Prop :=
  ∃ f fd, mg x = some (.ref f) ∧ PySem.W.keepIn K (.ref f) = true ∧ Binds K fd ps [] ∧
    FnOk P w K mg base CX0 k f fd ps sp
section
variable {P : Program} {w : World} {K : PySem.W.Frag} {mg : Str → Option Value} {base : Heap}
theorem OwnD.okF {x : Str} {st : Stmt} {N ps : List Str} {k : Nat} {sp : Sp} (O : OwnD K mg x st ps)
    (S : FnScope N ps (defScope st)) (len : ∀ vs H Q E, sp vs H Q E → vs.length = ps.length)
    (hbody : ∀ (f : Addr) (cdv : Value) (A : Around) (outer : List Env) (s : Shared) (H : Hp) (vs : List V) (Q : VK)
      (E : XK), True →
      Room k (A.deeper (envOfC x (defScope st) s.heap.objs.size f cdv)) → sp vs H Q E →
      ∃ t, PSs (cxOf CX0 P w K mg base N x (defScope st) f cdv A outer s H E).nox (defBody st) t ∧
        t { nx := fun _ H' => Q .non H', rt := Q } (start N vs) H) :
    Kf P w K mg base (k + 1) x ps sp := by
  obtain ⟨f, fd, hm, F, b⟩ := O
  exact ⟨f, fd, hm, F.kp, b, F.ok S len fun cdv A outer s H vs Q E hr h => hbody f cdv A outer s H vs Q E trivial hr h⟩
end
section
variable {X : Cx} {k j : Nat} {ps : List Str} {sp : Sp} {x : Str} {p pos : Pos} {e : Expr} {es : List Expr} {t : TA}
theorem pe_kf (F : Kf X.prog X.w X.K X.mg X.base k x ps sp) {G : Prop} (hA : G) (hr : Room j X.A)
    (hg : Gl X x) (ha : PA X (e :: es) t) (hj : k ≤ j := by decide)
    (hdb : (x == ("__debug__" : Str)) = false := by decide)
    (he : starEach (e :: es) X.env = (false, eval e X.env) :: starEach es X.env := by rfl)
    (hpl : (backTo pos (starEach es X.env)).any (·.1) = false := by rfl)
    (hx : Passes CX0 X E0 := by exact pass0) :
    PE X (.Call (.Name x p) (e :: es) [] pos) (tCall sp [] E0 t) := by
  obtain ⟨f, fd, hm, hk, hb, G⟩ := F
  exact pe_call G (hr.mono hj) hg hm hk hb .nil hx ha hdb he hpl
end
end L2
namespace L2
open PySem PySem.Spec PyProof.Rows
def rIsIB : R2 := fun x y H Q => ∃ (i : Int) (b : Bool), x = .int i ∧ y = .bl b ∧ Q (.bl false) H
theorem op_isIB {X : Cx} : OpR X (compareOp .Is) rIsIB := by
  intro pins s σ H x y v u Q I rx ry h
  obtain ⟨i, b, rfl, rfl, q⟩ := h
  obtain ⟨t, rfl⟩ := rx
  cases (show u = Value.bool b from ry)
  exact wpAny_is_other rfl (fun z => Value.noConfusion z) ⟨.bl false, H, I, rfl, q⟩
/-- each item of three lists in a new triple -/
def Itz3 (K : PySem.W.Frag) (a b c : Addr) : It :=
  ⟨fun i H => ∃ (xs ys zs : List V) (x y z : V), SqL K H a xs ∧ SqL K H b ys ∧ SqL K H c zs ∧ xs[i]? = some x ∧ ys[i]? = some y ∧ zs[i]? = some z,
    fun i H v H' => ∃ T x y z, v = .ref T ∧ H T = none ∧ H' = upd H T (.tup [x, y, z]) ∧ (∀ xs, SqL K H a xs → xs[i]? = some x) ∧
      (∀ ys, SqL K H b ys → ys[i]? = some y) ∧ (∀ zs, SqL K H c zs → zs[i]? = some z),
    fun i H => ∃ xs ys zs : List V, SqL K H a xs ∧ SqL K H b ys ∧ SqL K H c zs ∧ i ≤ xs.length ∧ i ≤ ys.length ∧ i ≤ zs.length ∧
      (i = xs.length ∨ i = ys.length ∨ i = zs.length)⟩
structure Zip3L (z TI TO i1 i2 i3 a b c : Addr) : Prop where
  S : ZipSep3 z TI TO i1 i2 i3 [i1, a] [i2, b] [i3, c]
  ai : a ≠ i1
  bi : b ≠ i2
  ci : c ≠ i3
theorem turn_zip3 {P : Program} {w : World} {K : PySem.W.Frag} {elts : List Expr} {kk : Nat} {tpos : Pos} {a b c zz TI TO i1 i2 i3 : Addr} (D : Zip3L zz TI TO i1 i2 i3 a b c) :
    Turn P w K (.Tuple elts kk tpos) (Itz3 K a b c) [zz, TI, TO, i1, i2, i3] zz (fun i h => IsZip h zz TI TO .none ∧ IsTupOf3 h TI (.ref i1) (.ref i2) (.ref i3) ∧ (∃ x y z, IsTupOf3 h TO x y z) ∧ h.IsListIter i1 a i ∧ h.IsListIter i2 b i ∧ h.IsListIter i3 c i) where
  mem := by simp
  obj := fun i h st cc hc => by
    obtain ⟨hz, hTI, ⟨x, y, z, hTO⟩, ⟨o1, e1, _, d1⟩, ⟨o2, e2, _, d2⟩, ⟨o3, e3, _, d3⟩⟩ := st
    have e' : cc = zz ∨ cc = TI ∨ cc = TO ∨ cc = i1 ∨ cc = i2 ∨ cc = i3 := by simpa using hc
    rcases e' with q | q | q | q | q | q
    · rw [q]; exact ⟨_, hz, fun v q => nomatch q⟩
    · rw [q]; exact ⟨_, hTI, fun v q => nomatch q⟩
    · rw [q]; exact ⟨_, hTO, fun v q => nomatch q⟩
    · rw [q]; exact ⟨o1, e1, fun v q => by rw [d1] at q; cases q⟩
    · rw [q]; exact ⟨o2, e2, fun v q => by rw [d2] at q; cases q⟩
    · rw [q]; exact ⟨o3, e3, fun v q => by rw [d3] at q; cases q⟩
  keep := fun i h h' st k => by
    obtain ⟨hz, hTI, ⟨x, y, z, hTO⟩, h1, h2, h3⟩ := st
    exact ⟨k zz (by simp) _ hz, k TI (by simp) _ hTI, ⟨x, y, z, k TO (by simp) _ hTO⟩, h1.at fun o q => k i1 (by simp) o q, h2.at fun o q => k i2 (by simp) o q, h3.at fun o q => k i3 (by simp) o q⟩
  item := by
    intro X hP hw hK hc i pins s σ H E I hf st hg
    subst hP hw hK
    obtain ⟨hz, hTI, ⟨x0, y0, z0, hTO⟩, h1, h2, h3⟩ := st
    obtain ⟨xs, ys, zs, x, y, z, hqx, hqy, hqz, hx, hy, hzz⟩ := hg
    obtain ⟨its, rv, p, _⟩ := I.list hqx
    obtain ⟨its2, rv2, p2, _⟩ := I.list hqy
    obtain ⟨its3, rv3, p3, _⟩ := I.list hqz
    obtain ⟨u, hu, ru⟩ := rv.get hx
    obtain ⟨u2, hu2, ru2⟩ := rv2.get hy
    obtain ⟨u3, hu3, ru3⟩ := rv3.get hzz
    have lt : ∀ {l : List Value} {v : Value}, l[i]? = some v → i < l.toArray.size := fun {l v} e => by
      rw [List.size_toArray]
      rcases Nat.lt_or_ge i l.length with h | h
      · exact h
      · rw [List.getElem?_eq_none h] at e
        cases e
    have hzl : zz < s.heap.objs.size := Heap.lt_size hz
    have hh : X.A.handled = none := I.ok.hd hc
    refine wpAny_pyNext_zipD3_item D.S (Draws.list (by exact hh) i1 a D.ai its.toArray) (Draws.list (by exact hh) i2 b D.bi its2.toArray) (Draws.list (by exact hh) i3 c D.ci its3.toArray)
      hz hTI hTO ⟨h1, p.isList⟩ ⟨h2, p2.isList⟩ ⟨h3, p3.isList⟩ (lt hu) (lt hu2) (lt hu3) fun w1 w2 w3 h' tk y1 y2 y3 z' TO' h1' h2' h3' hT hsz hk => ?_
    obtain rfl : w1 = u := by
      have y1' : its[i]? = some w1 := by simpa using y1
      rw [hu] at y1'
      exact (Option.some.inj y1').symm
    obtain rfl : w2 = u2 := by
      have y1' : its2[i]? = some w2 := by simpa using y2
      rw [hu2] at y1'
      exact (Option.some.inj y1').symm
    obtain rfl : w3 = u3 := by
      have y1' : its3[i]? = some w3 := by simpa using y3
      rw [hu3] at y1'
      exact (Option.some.inj y1').symm
    refine ⟨_, rfl, wpAny_letOwnedTupleGo_zip (s := { s with heap := h', toks := tk }) z' fun h'' z'' sb => ?_⟩
    have hT2 : h''.get? s.heap.objs.size = some { cls := .type "tuple", data := .seq #[w1, w2, w3] } := (sb.2 _ (Nat.ne_of_gt hzl)).trans hT
    have new : ObjOk X.prog X.w (upd H s.heap.objs.size (.tup [x, y, z])) h'' s.heap.objs.size (.tup [x, y, z]) :=
      ⟨by show 3 ≤ sizeLine; decide, [w1, w2, w3], .cons ru (.cons ru2 (.cons ru3 .nil)), ⟨_, hT2, rfl, _, rfl⟩⟩
    have I1 : Inv X pins σ (upd H s.heap.objs.size (.tup [x, y, z])) { s with heap := h'', toks := tk } :=
      I.turnedNew (ch := [zz, TI, TO, i1, i2, i3]) (fun c o hb q => (sb.2 c (fun q' => hb (by simp [q']))).trans (hk c o (fun q' => hb (by simp [q'])) (fun q' => hb (by simp [q'])) (fun q' => hb (by simp [q'])) (fun q' => hb (by simp [q'])) (fun q' => hb (by simp [q'])) q)) hf (Nat.le_refl _) new
    refine ⟨.ref s.heap.objs.size, _, I1, rfl, ⟨_, x, y, z, rfl, I.hok.fresh (Nat.le_refl _), rfl, fun l hl => ?_, fun l hl => ?_, fun l hl => ?_⟩, ⟨z'', ?_, ⟨w1, w2, w3, ?_⟩, ?_, ?_, ?_⟩, fun cc hcm => ?_⟩
    · rw [I.list_inj hl hqx]
      exact hx
    · rw [I.list_inj hl hqy]
      exact hy
    · rw [I.list_inj hl hqz]
      exact hzz
    · exact (sb.2 _ D.S.TIz).trans (hk _ _ D.S.TIz D.S.TITO D.S.TIi1 D.S.TIi2 D.S.TIi3 hTI)
    · exact (sb.2 _ D.S.TOz).trans TO'
    · exact h1'.1.at fun o q => (sb.2 _ (Ne.symm D.S.zi1)).trans q
    · exact h2'.1.at fun o q => (sb.2 _ (Ne.symm D.S.zi2)).trans q
    · exact h3'.1.at fun o q => (sb.2 _ (Ne.symm D.S.zi3)).trans q
    · have hlt : cc < s.heap.objs.size := by
        have e' : cc = zz ∨ cc = TI ∨ cc = TO ∨ cc = i1 ∨ cc = i2 ∨ cc = i3 := by simpa using hcm
        rcases e' with q | q | q | q | q | q
        · rw [q]; exact hzl
        · rw [q]; exact Heap.lt_size hTI
        · rw [q]; exact Heap.lt_size hTO
        · rw [q]; obtain ⟨_, e1, _⟩ := h1; exact Heap.lt_size e1
        · rw [q]; obtain ⟨_, e2, _⟩ := h2; exact Heap.lt_size e2
        · rw [q]; obtain ⟨_, e3, _⟩ := h3; exact Heap.lt_size e3
      rw [upd_ne (Nat.ne_of_lt hlt)]
      exact (hf cc hcm).1
  done := by
    intro X hP hw hK hc i pins s σ H E I hf st hg
    subst hP hw hK
    obtain ⟨hz, hTI, ⟨x0, y0, z0, hTO⟩, h1, h2, h3⟩ := st
    obtain ⟨xs, ys, zs, hqx, hqy, hqz, l1, l2, l3, he⟩ := hg
    obtain ⟨its, rv, p, _⟩ := I.list hqx
    obtain ⟨its2, rv2, p2, _⟩ := I.list hqy
    obtain ⟨its3, rv3, p3, _⟩ := I.list hqz
    have e1 := rv.length
    have e2 := rv2.length
    have e3 := rv3.length
    have hh : X.A.handled = none := I.ok.hd hc
    exact wpAny_pyNext_zipD3_end D.S (Draws.list (by exact hh) i1 a D.ai its.toArray) (Draws.list (by exact hh) i2 b D.bi its2.toArray) (Draws.list (by exact hh) i3 c D.ci its3.toArray)
      hz hTI hTO ⟨h1, p.isList⟩ ⟨h2, p2.isList⟩ ⟨h3, p3.isList⟩ (by rw [List.size_toArray]; omega) (by rw [List.size_toArray]; omega) (by rw [List.size_toArray]; omega)
      (by rw [List.size_toArray, List.size_toArray, List.size_toArray]; omega) fun h' tk hk => ⟨rfl, I.turnedL (ch := [zz, TI, TO, i1, i2, i3]) (fun c o hb q =>
      hk c o (fun q' => hb (by simp [q'])) (fun q' => hb (by simp [q'])) (fun q' => hb (by simp [q'])) (fun q' => hb (by simp [q'])) (fun q' => hb (by simp [q'])) q) hf⟩
  self := fun A i s Q E st h => wpAny_pyIter_zip st.1 h
theorem zip3L_of {n a b c : Nat} (la : a < n) (lb : b < n) (lc : c < n) : Zip3L (n + 5) (n + 3) (n + 4) n (n + 1) (n + 2) a b c := by
  have n4 : ∀ i j : Nat, i ≠ j → n + i ≠ n + j := fun i j h => by omega
  have mem2 : ∀ {x u v : Nat}, x ≠ u → x ≠ v → x ∉ ([u, v] : List Nat) := fun h1 h2 h => by
    simp only [List.mem_cons, List.not_mem_nil, or_false] at h
    exact h.elim h1 h2
  exact ⟨⟨by show n + 3 ≠ n + 5; omega, by show n + 4 ≠ n + 5; omega, by show n + 3 ≠ n + 4; omega, by show n + 3 ≠ n; omega, List.mem_cons_self, mem2 (by omega) (by omega), mem2 (by omega) (by omega),
    by show n + 3 ≠ n + 1; omega, List.mem_cons_self, mem2 (by omega) (by omega), mem2 (by omega) (by omega),
    by show n + 3 ≠ n + 2; omega, List.mem_cons_self, mem2 (by omega) (by omega), mem2 (by omega) (by omega),
    mem2 (by omega) (by omega), mem2 (by omega) (by omega), mem2 (by omega) (by omega), mem2 (by omega) (by omega), mem2 (by omega) (by omega), mem2 (by omega) (by omega)⟩,
    by show a ≠ n; omega, by show b ≠ n + 1; omega, by show c ≠ n + 2; omega⟩
def YTri (xs ys zs : Nat → Option V) : Nat → Hp → V → Hp → Prop := fun i H v H' => ∃ T x y z, v = .ref T ∧ H T = none ∧ H' = upd H T (.tup [x, y, z]) ∧ xs i = some x ∧ ys i = some y ∧ zs i = some z
theorem walk_zip3 {K : PySem.W.Frag} {a b c : Addr} {xs ys zs : List V} {n : Nat} (h1 : n ≤ xs.length) (h2 : n = ys.length) (h3 : n ≤ zs.length) :
    Walk (Itz3 K a b c) n (fun H => SqL K H a xs ∧ SqL K H b ys ∧ SqL K H c zs) (YTri (fun i => xs[i]?) (fun i => ys[i]?) (fun i => zs[i]?)) := by
  refine ⟨fun i H hi q => ⟨xs, ys, zs, xs[i], ys[i], zs[i], q.1, q.2.1, q.2.2, by simp [show i < xs.length by omega], by simp [show i < ys.length by omega], by simp [show i < zs.length by omega]⟩,
    fun _ q => ⟨xs, ys, zs, q.1, q.2.1, q.2.2, h1, by omega, h3, .inr (.inl h2)⟩,
    fun i H x H' _ q ⟨T, x1, y1, z1, g1, g2, g3, g4, g5, g6⟩ => ⟨T, _, _, _, g1, g2, g3, g4 xs q.1, g5 ys q.2.1, g6 zs q.2.2⟩⟩
end L2
namespace KG
open PySem L2
local macro_rules | `(tactic| walk_at "hp") => `(tactic| first
  | assumption
  | exact upd_same
  | (refine upd_new (by assumption) ?_; walk_at "hp")
  | (refine upd_oth (by first | assumption | (apply Ne.symm; assumption)) ?_; walk_at "hp"))
def top (i : Nat) : Stmt := PySem.Challenge.pw_headgap_k04_normal_forms.main.body.getD i (.Pass ⟨0, 0, 0, 0⟩)
abbrev s_isint : Stmt := top 11
abbrev n_isint : List Str := ["value"]
theorem sc_isint : FnScope n_isint ["value"] (defScope s_isint) :=
  ⟨rfl, rfl, rfl, by decide +kernel, rfl, by decide +kernel, by decide +kernel⟩
abbrev s_aregains : Stmt := top 39
abbrev n_aregains : List Str := ["gains", "gain"]
theorem sc_aregains : FnScope n_aregains ["gains"] (defScope s_aregains) :=
  ⟨rfl, rfl, rfl, by decide +kernel, rfl, by decide +kernel, by decide +kernel⟩
abbrev s_aretold : Stmt := top 40
abbrev n_aretold : List Str := ["told", "least", "wrong", "value"]
theorem sc_aretold : FnScope n_aretold ["told", "least"] (defScope s_aretold) :=
  ⟨rfl, rfl, rfl, by decide +kernel, rfl, by decide +kernel, by decide +kernel⟩
abbrev s_beginback : Stmt := top 21
abbrev n_beginback : List Str := ["told", "begin", "gains", "many", "value", "later"]
theorem sc_beginback : FnScope n_beginback ["told", "begin", "gains"] (defScope s_beginback) :=
  ⟨rfl, rfl, rfl, by decide +kernel, rfl, by decide +kernel, by decide +kernel⟩
abbrev s_isperiod : Stmt := top 19
abbrev n_isperiod : List Str := ["tail", "climbs", "period", "parts", "value", "later", "climb"]
theorem sc_isperiod : FnScope n_isperiod ["tail", "climbs", "period"] (defScope s_isperiod) :=
  ⟨rfl, rfl, rfl, by decide +kernel, rfl, by decide +kernel, by decide +kernel⟩
abbrev s_leastperiod : Stmt := top 20
abbrev n_leastperiod : List Str := ["tail", "climbs", "many", "period"]
theorem sc_leastperiod : FnScope n_leastperiod ["tail", "climbs"] (defScope s_leastperiod) :=
  ⟨rfl, rfl, rfl, by decide +kernel, rfl, by decide +kernel, by decide +kernel⟩
abbrev s_settled : Stmt := top 22
abbrev n_settled : List Str := ["told", "gains", "many", "begin", "tail", "climbs", "period", "least", "k", "rest"]
theorem sc_settled : FnScope n_settled ["told", "gains"] (defScope s_settled) :=
  ⟨rfl, rfl, rfl, by decide +kernel, rfl, by decide +kernel, by decide +kernel⟩
abbrev s_valuesto : Stmt := top 18
abbrev n_valuesto : List Str := ["growth", "length", "told", "many", "rests", "rounds", "later", "n", "k", "value", "gain"]
theorem sc_valuesto : FnScope n_valuesto ["growth", "length"] (defScope s_valuesto) :=
  ⟨rfl, rfl, rfl, by decide +kernel, rfl, by decide +kernel, by decide +kernel⟩
abbrev s_comper : Stmt := top 25
abbrev n_comper : List Str := ["one", "other"]
theorem sc_comper : FnScope n_comper ["one", "other"] (defScope s_comper) :=
  ⟨rfl, rfl, rfl, by decide +kernel, rfl, by decide +kernel, by decide +kernel⟩
abbrev s_combeg : Stmt := top 26
abbrev n_combeg : List Str := ["one", "other"]
theorem sc_combeg : FnScope n_combeg ["one", "other"] (defScope s_combeg) :=
  ⟨rfl, rfl, rfl, by decide +kernel, rfl, by decide +kernel, by decide +kernel⟩
abbrev s_gainover : Stmt := top 27
abbrev n_gainover : List Str := ["growth", "n", "many", "period"]
theorem sc_gainover : FnScope n_gainover ["growth", "n", "many"] (defScope s_gainover) :=
  ⟨rfl, rfl, rfl, by decide +kernel, rfl, by decide +kernel, by decide +kernel⟩
abbrev s_summed : Stmt := top 28
abbrev n_summed : List Str := ["one", "other", "many", "length", "told", "first", "second", "rest"]
theorem sc_summed : FnScope n_summed ["one", "other"] (defScope s_summed) :=
  ⟨rfl, rfl, rfl, by decide +kernel, rfl, by decide +kernel, by decide +kernel⟩
abbrev s_roww : Stmt := top 36
abbrev n_roww : List Str := ["told", "gains", "value", "gain"]
theorem sc_roww : FnScope n_roww ["told", "gains"] (defScope s_roww) :=
  ⟨rfl, rfl, rfl, by decide +kernel, rfl, by decide +kernel, by decide +kernel⟩
abbrev s_made : Stmt := top 42
abbrev n_made : List Str := ["told", "gains", "least_told", "least_gains", "growth"]
theorem sc_made : FnScope n_made ["told", "gains"] (defScope s_made) :=
  ⟨rfl, rfl, rfl, by decide +kernel, rfl, by decide +kernel, by decide +kernel⟩
abbrev s_lpen : Stmt := top 45
abbrev n_lpen : List Str := ["_law_script"]
theorem sc_lpen : FnScope n_lpen ["_law_script"] (defScope s_lpen) :=
  ⟨rfl, rfl, rfl, by decide +kernel, rfl, by decide +kernel, by decide +kernel⟩
abbrev s_ldraw : Stmt := top 46
abbrev n_ldraw : List Str := ["_law_pen_here", "_law_many", "_law_digit", "_law_turn", "_law_cell", "_law_great", "_law_blend"]
theorem sc_ldraw : FnScope n_ldraw ["_law_pen_here", "_law_many"] (defScope s_ldraw) :=
  ⟨rfl, rfl, rfl, by decide +kernel, rfl, by decide +kernel, by decide +kernel⟩
abbrev s_lpick : Stmt := top 47
abbrev n_lpick : List Str := ["_law_pen_here", "_law_some_here"]
theorem sc_lpick : FnScope n_lpick ["_law_pen_here", "_law_some_here"] (defScope s_lpick) :=
  ⟨rfl, rfl, rfl, by decide +kernel, rfl, by decide +kernel, by decide +kernel⟩
abbrev s_ltold : Stmt := top 48
abbrev n_ltold : List Str := ["_law_pen_here", "_law_gains", "_law_many", "_law_turn"]
theorem sc_ltold : FnScope n_ltold ["_law_pen_here"] (defScope s_ltold) :=
  ⟨rfl, rfl, rfl, by decide +kernel, rfl, by decide +kernel, by decide +kernel⟩
abbrev s_lat : Stmt := top 49
abbrev n_lat : List Str := ["_law_pair", "_law_n", "_law_told_here", "_law_gains", "_law_turns", "_law_value"]
theorem sc_lat : FnScope n_lat ["_law_pair", "_law_n"] (defScope s_lat) :=
  ⟨rfl, rfl, rfl, by decide +kernel, rfl, by decide +kernel, by decide +kernel⟩
abbrev s_lisnormal : Stmt := top 51
abbrev n_lisnormal : List Str := ["_law_told_here", "_law_gains", "_law_many", "_law_period", "_law_pair", "_law_n", "_law_before", "_law_last", "_law_less"]
theorem sc_lisnormal : FnScope n_lisnormal ["_law_told_here", "_law_gains"] (defScope s_lisnormal) :=
  ⟨rfl, rfl, rfl, by decide +kernel, rfl, by decide +kernel, by decide +kernel⟩
abbrev s_lrepeats : Stmt := top 52
abbrev n_lrepeats : List Str := ["_law_pair", "_law_less", "_law_begun", "_law_steps", "_law_n", "_law_low", "_law_high", "_law_at_here"]
theorem sc_lrepeats : FnScope n_lrepeats ["_law_pair", "_law_less"] (defScope s_lrepeats) :=
  ⟨rfl, rfl, rfl, by decide +kernel, rfl, by decide +kernel, by decide +kernel⟩
abbrev s_llonger : Stmt := top 53
abbrev n_llonger : List Str := ["_law_pen_here", "_law_pair", "_law_told_here", "_law_gains", "_law_times", "_law_more", "_law_wide", "_law_rest", "_law_last", "_law_gain", "_law_n"]
theorem sc_llonger : FnScope n_llonger ["_law_pen_here", "_law_pair"] (defScope s_llonger) :=
  ⟨rfl, rfl, rfl, by decide +kernel, rfl, by decide +kernel, by decide +kernel⟩
abbrev s_lbent : Stmt := top 54
abbrev n_lbent : List Str := ["_law_pen_here", "_law_pair", "_law_told_here", "_law_gains", "_law_at_here", "_law_turn"]
theorem sc_lbent : FnScope n_lbent ["_law_pen_here", "_law_pair"] (defScope s_lbent) :=
  ⟨rfl, rfl, rfl, by decide +kernel, rfl, by decide +kernel, by decide +kernel⟩
abbrev s_lwideright : Stmt := top 55
abbrev n_lwideright : List Str := ["_law_pen_here", "_law_period", "_law_times", "_law_gains", "_law_told_here", "_law_given", "_law_row", "_law_one", "_law_other", "_law_rest", "_law_n", "_law_gain"]
theorem sc_lwideright : FnScope n_lwideright ["_law_pen_here"] (defScope s_lwideright) :=
  ⟨rfl, rfl, rfl, by decide +kernel, rfl, by decide +kernel, by decide +kernel⟩
abbrev s_law : Stmt := top 56
abbrev n_law : List Str := ["_law_script", "_law_pen_here", "_law_turn", "_law_pair", "_law_one", "_law_wide", "_law_bent_here", "_law_other", "_law_odd"]
theorem sc_law : FnScope n_law ["_law_script"] (defScope s_law) :=
  ⟨rfl, rfl, rfl, by decide +kernel, rfl, by decide +kernel, by decide +kernel⟩
def blts : List Str := ["len", "repr", "isinstance", "abs", "int", "list", "range", "tuple", "bool", "all", "any", "max", "min", "zip", "str"]
/-- the pen at p: its cells are ns, at most n draws are done -/
def PenAt (H : Hp) (p c : Addr) (ns : List Int) (n : Nat) : Prop :=
  ∃ (t g : Int), H p = some (.lst [.ref c, .int t, .int g]) ∧ H c = some (.lst (ns.map V.int)) ∧ c ≠ p ∧ 0 ≤ t ∧ t ≤ n
def spPen (K : PySem.W.Frag) : Sp := fun vs H Q _ => ∃ (a : Addr) (ns : List Int), vs = [.ref a] ∧
  SqL K H a (ns.map V.int) ∧ ns.length ≤ 63 ∧
  ∀ (p c : Addr) (H' : Hp), H p = none → H c = none → Same H H' → PenAt H' p c ns 0 → Q (.ref p) H'
def spDraw : Sp := fun vs H Q _ => ∃ (p c : Addr) (many : Int) (ns : List Int) (n : Nat),
  vs = [.ref p, .int many] ∧ PenAt H p c ns n ∧ ns.length ≤ 63 ∧ 1 ≤ many ∧ many < 1000000000 ∧ n < 1000000 ∧
  ∀ (r : Int) (H' : Hp), 0 ≤ r → r < many → PenAt H' p c ns (n + 1) → But p H H' → Q (.int r) H'
structure Txt (K : PySem.W.Frag) (mg : Str → Option Value) : Prop where
  nb : ∀ x ∈ blts, mg x = none
  c_gains : ∃ t, mg "MOST_GAINS" = some (.int 60 t)
  c_told : ∃ t, mg "MOST_TOLD" = some (.int 4000 t)
  d_isint : OwnD K mg "is_integer" s_isint ["value"]
  d_aregains : OwnD K mg "are_gains" s_aregains ["gains"]
  d_aretold : OwnD K mg "are_told" s_aretold ["told", "least"]
  d_beginback : OwnD K mg "begin_back" s_beginback ["told", "begin", "gains"]
  d_isperiod : OwnD K mg "is_period" s_isperiod ["tail", "climbs", "period"]
  d_leastperiod : OwnD K mg "least_period" s_leastperiod ["tail", "climbs"]
  d_settled : OwnD K mg "settled" s_settled ["told", "gains"]
  d_valuesto : OwnD K mg "values_to" s_valuesto ["growth", "length"]
  d_comper : OwnD K mg "common_period" s_comper ["one", "other"]
  d_combeg : OwnD K mg "common_begin" s_combeg ["one", "other"]
  d_gainover : OwnD K mg "gain_over" s_gainover ["growth", "n", "many"]
  d_summed : OwnD K mg "summed" s_summed ["one", "other"]
  d_roww : OwnD K mg "row_words" s_roww ["told", "gains"]
  d_made : OwnD K mg "made" s_made ["told", "gains"]
  d_pen : OwnD K mg "_law_pen" s_lpen ["_law_script"]
  d_draw : OwnD K mg "_law_draw" s_ldraw ["_law_pen_here", "_law_many"]
  d_pick : OwnD K mg "_law_pick" s_lpick ["_law_pen_here", "_law_some_here"]
  d_ltold : OwnD K mg "_law_told" s_ltold ["_law_pen_here"]
  d_lat : OwnD K mg "_law_at" s_lat ["_law_pair", "_law_n"]
  d_lisnormal : OwnD K mg "_law_is_normal" s_lisnormal ["_law_told_here", "_law_gains"]
  d_lrepeats : OwnD K mg "_law_repeats" s_lrepeats ["_law_pair", "_law_less"]
  d_llonger : OwnD K mg "_law_longer" s_llonger ["_law_pen_here", "_law_pair"]
  d_lbent : OwnD K mg "_law_bent" s_lbent ["_law_pen_here", "_law_pair"]
  d_lwideright : OwnD K mg "_law_wide_right" s_lwideright ["_law_pen_here"]
  d_law : OwnD K mg "law" s_law ["_law_script"]
section
variable {P : Program} {w : World} {K : PySem.W.Frag} {mg : Str → Option Value} {base : Heap}
theorem eqv_nil (ds : List PyData) : PyData.eqv (.list ds) (.list []) = ds.isEmpty := by
  cases ds <;> simp [PyData.eqv, PyData.eqvAll]
theorem shaped_ints (ns : List Int) : SeqAt.shaped (.list (ns.map PyData.int)) = true := by
  have h1 : ∀ l : List Int, PyData.canLayAll0 (l.map PyData.int) = true := by
    intro l
    induction l with
    | nil => simp [PyData.canLayAll0]
    | cons a l ih => simp [PyData.canLayAll0, PyData.canLay0, ih]
  have h2 : ∀ l : List Int, PyData.depthAll (l.map PyData.int) ≤ 1 := by
    intro l
    induction l with
    | nil => simp [PyData.depthAll]
    | cons a l ih => simp [PyData.depthAll, PyData.depth]; omega
  unfold SeqAt.shaped
  have := h2 ns
  simp [PyData.canLay0, PyData.depth, h1]
  omega
theorem kp_draw (T : Txt K mg) : Kf P w K mg base 1 "_law_draw" ["_law_pen_here", "_law_many"] spDraw := by
  refine T.d_draw.okF sc_ldraw (fun vs H Q E h => ?_) (fun f cdv A outer s H vs Q E hA hr h => ?_)
  · obtain ⟨p, c, m, ns, n, rfl, _⟩ := h
    rfl
  · obtain ⟨p, c, m, ns, n, rfl, ⟨t, g, hp, hc, ne, t0, t1⟩, hlen, m0, m1, hn, k⟩ := h
    have fin : ∀ (r t' g' : Int) (H' : Hp), 0 ≤ r → r < m → 0 ≤ t' → t' ≤ (n : Int) + 1 → H' p = some (.lst [.ref c, .int t', .int g']) →
        But p H H' → Q (.int r) H' := fun r t' g' H' r0 r1 a b e fr =>
      k r H' r0 r1 ⟨t', g', e, fr c ne _ hc, ne, a, by omega⟩ fr
    refine ⟨_, (pss_cons (ps_if (pt_cmpR op_gt (pe_ix (ix_list : IxR _ (rIxL K)) (pv 0) (pe_int) (fun _ _ => rfl)) (pe_int) (nomark _))
 (pss_cons (ps_set (i := 2) sc_ldraw.nd rfl (Or.inl rfl) (pe_op op_modW (pe_callTy call_intI (by rfl) (T.nb _ (by decide)) (by decide +kernel) (pa_cons (pe_ix (ix_list : IxR _ (rIxL K)) (pv 0) (pe_int) (fun _ _ => rfl)) pa_nil)) (pv 1)))
 (pss_cons (ps_asg (pe_op op_divW (pe_callTy call_intI (by rfl) (T.nb _ (by decide)) (by decide +kernel) (pa_cons (pe_ix (ix_list : IxR _ (rIxL K)) (pv 0) (pe_int) (fun _ _ => rfl)) pa_nil)) (pv 1)) (pg_sub (pv 0) (pe_int) set_list))
 (pss_one (ps_ret (pv 2))))) pss_nil)
 (pss_cons (ps_set (i := 3) sc_ldraw.nd rfl (Or.inl rfl) (pe_ix (ix_list : IxR _ (rIxL K)) (pv 0) (pe_int) (fun _ _ => rfl)))
 (pss_cons (ps_asg (pe_op op_add (pv 3) (pe_int)) (pg_sub (pv 0) (pe_int) set_list))
 (pss_cons (ps_set (i := 4) sc_ldraw.nd rfl (Or.inl rfl) (pe_op op_add (pe_op op_mulW' (pe_int) (pv 3)) (pe_int)))
 (pss_mid (ps_if (pt_cmpR (op_neD hr.units) (pe_ix (ix_list : IxR _ (rIxL K)) (pv 0) (pe_int) (fun _ _ => rfl)) (pe_lst pa_nil) (nomark _))
 (pss_one (ps_set (i := 4) sc_ldraw.nd rfl (Or.inl rfl) (pe_ix (ix_list : IxR _ (rIxL K)) (pe_ix (ix_list : IxR _ (rIxL K)) (pv 0) (pe_int) (fun _ _ => rfl)) (pe_op op_modW (pe_callTy call_intI (by rfl) (T.nb _ (by decide)) (by decide +kernel) (pa_cons (pv 3) pa_nil)) (pe_callB call_len (by rfl) (T.nb _ (by decide)) PySem.boot_len (pa_cons (pe_ix (ix_list : IxR _ (rIxL K)) (pv 0) (pe_int) (fun _ _ => rfl)) pa_nil))) (fun _ _ => rfl)))) pss_nil)
 (pss_mid (ps_if (PW.pt (pw_and (pt_cmpR op_lt (pv 3) (pe_callB call_len (by rfl) (T.nb _ (by decide)) PySem.boot_len (pa_cons (pe_ix (ix_list : IxR _ (rIxL K)) (pv 0) (pe_int) (fun _ _ => rfl)) pa_nil)) (nomark _)) (pw_and1 (pt_cmpR op_ge (pe_callB call_abs (by rfl) (T.nb _ (by decide)) (by decide +kernel) (pa_cons (pv 4) pa_nil)) (pe_op op_pow (pe_int) (pe_int)) (nomark _)))))
 (pss_cons (ps_set (i := 5) sc_ldraw.nd rfl (Or.inl rfl) (pe_op op_add (pe_op op_mulW' (pe_int) (pe_op op_sub (pe_callB call_abs (by rfl) (T.nb _ (by decide)) (by decide +kernel) (pa_cons (pv 4) pa_nil)) (pe_op op_pow (pe_int) (pe_int)))) (pe_callTy call_intB (by rfl) (T.nb _ (by decide)) (by decide +kernel) (pa_cons (pe_cmpR op_lt (pv 4) (pe_int) (nomark _)) pa_nil))))
 (pss_cons (ps_asg (pe_op op_divW (pe_callTy call_intI (by rfl) (T.nb _ (by decide)) (by decide +kernel) (pa_cons (pv 5) pa_nil)) (pv 1)) (pg_sub (pv 0) (pe_int) set_list))
 (pss_one (ps_ret (pe_op op_modW (pe_callTy call_intI (by rfl) (T.nb _ (by decide)) (by decide +kernel) (pa_cons (pv 5) pa_nil)) (pv 1)))))) pss_nil)
 (pss_cons (ps_set (i := 6) sc_ldraw.nd rfl (Or.inl rfl) (pe_op op_modW (pe_callTy call_intI (by rfl) (T.nb _ (by decide)) (by decide +kernel) (pa_cons (pe_op op_powW (pe_op op_add (pe_op op_add (pe_op op_modW (pe_callTy call_intI (by rfl) (T.nb _ (by decide)) (by decide +kernel) (pa_cons (pv 4) pa_nil)) (pe_int)) (pe_op op_mulW' (pe_int) (pv 3))) (pe_int)) (pe_int)) pa_nil)) (pe_int)))
 (pss_cons (ps_set (i := 6) sc_ldraw.nd rfl (Or.inl rfl) (pe_op op_modW (pe_callTy call_intI (by rfl) (T.nb _ (by decide)) (by decide +kernel) (pa_cons (pe_op op_powW (pe_op op_add (pe_op op_add (pe_op op_mulW' (pv 6) (pe_op op_add (pe_op op_mulW' (pe_int) (pv 3)) (pe_int))) (pe_op op_mulW' (pe_op op_mulW' (pe_int) (pv 3)) (pv 3))) (pe_int)) (pe_int)) pa_nil)) (pe_int)))
 (pss_one (ps_ret (pe_op op_modW (pe_callTy call_intI (by rfl) (T.nb _ (by decide)) (by decide +kernel) (pa_cons (pe_op op_divW (pv 6) (pe_int)) pa_nil)) (pv 1)))))))))))), ?_⟩
    refine ⟨_, rfl, _, _, _, _, rfl, rfl, SqL.of (by walk_at "hp"), rfl, _, _, rfl, rfl, _, rfl, ?_⟩
    refine ite2 (fun c1 => ?_) (fun c1 => ?_)
    · -- a digit of a great cell
      refine ⟨_, rfl, _, _, _, _, rfl, rfl, SqL.of (by walk_at "hp"), rfl, _, rfl, _, rfl, _, _, rfl, rfl, by omega, fun r r0 r1 => ?_⟩
      refine ⟨_, rfl, _, _, _, _, rfl, rfl, SqL.of (by walk_at "hp"), rfl, _, rfl, _, rfl, _, _, rfl, rfl, by omega, by omega, fun q z _ _ _ => ?_⟩
      refine ⟨_, rfl, _, _, _, _, rfl, rfl, by walk_at "hp", rfl, _, rfl, ?_⟩
      exact fin r t q _ r0 r1 t0 (by omega) upd_same (fun b hb o e => upd_oth hb e)
    · refine ⟨_, rfl, _, _, _, _, rfl, rfl, SqL.of (by walk_at "hp"), rfl, ?_⟩
      refine ⟨_, rfl, _, _, rfl, rfl, _, rfl, _, _, _, _, rfl, rfl, by walk_at "hp", rfl, ?_⟩
      refine ⟨_, rfl, _, _, rfl, rfl, .inl (by constructor <;> decide), fun z hz => ?_⟩
      refine ⟨_, _, rfl, rfl, ?_⟩
      have hp1 : ∀ u : HO, upd H p u p = some u := fun u => upd_same
      have hc1 : ∀ u : HO, upd H p u c = some (.lst (ns.map V.int)) := fun u => upd_oth ne hc
      have fr1 : ∀ u : HO, But p H (upd H p u) := fun u b hb o e => upd_oth hb e
      -- behind the first cell's choice: some int
      let σ2 : Int → St := fun v => [some (.ref p), some (.int m), none, some (.int t), some (.int v), none, none]
      refine ⟨fun σ' H' => (∃ v, σ' = σ2 v) ∧ H' p = some (.lst [.ref c, .int (t + 1), .int g]) ∧ But p H H', ?_, ?_⟩
      · refine ⟨_, rfl, _, _, _, _, rfl, rfl, SqL.of (hp1 _), rfl, by decide, fun l hl => ?_⟩
        have hp2 : ∀ u : HO, upd (upd H p (.lst [.ref c, .int (t + 1), .int g])) l u p = some (.lst [.ref c, .int (t + 1), .int g]) :=
          fun u => upd_new hl (hp1 _)
        have hc2 : ∀ u : HO, upd (upd H p (.lst [.ref c, .int (t + 1), .int g])) l u c = some (.lst (ns.map V.int)) :=
          fun u => upd_new hl (hc1 _)
        have fr2 : ∀ u : HO, But p H (upd (upd H p (.lst [.ref c, .int (t + 1), .int g])) l u) := fun u b hb o e => upd_new hl (fr1 _ b hb o e)
        refine ⟨_, _, .lst (SqL.of (hc2 _)) (dp_ints ns), .lst (SqL.of upd_same) .nil, shaped_ints ns, rfl, _, rfl, ?_⟩
        rw [eqv_nil]
        refine ite2 (fun c2 => ?_) (fun c2 => ?_)
        · have hne : 0 < (ns.length : Int) := by
            cases ns with
            | nil => simp at c2
            | cons a l => simp
          refine ⟨_, rfl, _, _, _, _, rfl, rfl, SqL.of (hp2 _), rfl, _, rfl, _, rfl, _, rfl, _, _, _, _, rfl, rfl, SqL.of (hp2 _), rfl, ?_⟩
          refine ⟨_, _, rfl, len_lst (hc2 _), _, _, rfl, rfl, ?_, fun r r0 r1 => ?_⟩
          · rw [List.length_map]; exact hne
          · rw [List.length_map] at r1
            obtain ⟨x, hx⟩ := at_map r0 r1
            exact ⟨_, _, _, _, rfl, rfl, SqL.of (hc2 _), hx, ⟨x, rfl⟩, hp2 _, fr2 _⟩
        · exact ⟨⟨_, rfl⟩, hp2 _, fr2 _⟩
      · rintro σ' H' ⟨⟨v, rfl⟩, hp', fr'⟩
        have hc' : H' c = some (.lst (ns.map V.int)) := fr' c ne _ hc
        refine ⟨fun σ1 H1 => σ1 = σ2 v ∧ H1 p = some (.lst [.ref c, .int (t + 1), .int g]) ∧ But p H H1, ?_, ?_⟩
        · refine ⟨_, rfl, _, rfl, _, _, _, _, rfl, rfl, SqL.of hp', rfl, _, _, rfl, len_lst hc', _, _, rfl, rfl, _, rfl, ?_⟩
          refine ite2 (fun c3 => ?_) (fun c3 => iteF ⟨rfl, hp', fr'⟩)
          refine ⟨_, rfl, _, rfl, _, _, rfl, rfl, ⟨by decide, by decide, by decide⟩, _, _, rfl, rfl, _, rfl, ?_⟩
          refine ite2 (fun c4 => ?_) (fun c4 => ⟨rfl, hp', fr'⟩)
          refine ⟨_, rfl, _, rfl, _, _, rfl, rfl, ⟨by decide, by decide, by decide⟩, _, _, rfl, rfl, _, _, rfl, rfl, .inl (by constructor <;> decide), fun z1 hz1 => ?_⟩
          refine ⟨_, rfl, _, _, rfl, rfl, _, rfl, fun i i0 i1 => ⟨_, _, rfl, rfl, ?_⟩⟩
          refine ⟨_, rfl, _, rfl, _, rfl, _, _, rfl, rfl, by omega, by omega, fun q z2 _ _ _ => ?_⟩
          refine ⟨_, rfl, _, _, _, _, rfl, rfl, by walk_at "hp", rfl, ?_⟩
          refine ⟨_, rfl, _, rfl, _, rfl, _, _, rfl, rfl, by omega, fun r r0 r1 => ?_⟩
          exact fin r (t + 1) q _ r0 r1 (by omega) (by omega) upd_same (fun b hb o e => upd_oth hb (fr' b hb o e))
        · rintro σ1 H1 ⟨rfl, hp1, fr1⟩
          refine ⟨_, rfl, _, rfl, _, _, rfl, rfl, by decide, fun r r0 r1 => ?_⟩
          refine ⟨_, rfl, _, _, rfl, rfl, .inl (by constructor <;> decide), fun z1 hz1 => ?_⟩
          refine ⟨_, _, rfl, rfl, _, _, rfl, rfl, _, _, rfl, rfl, by decide, by decide, by omega, fun z2 => ?_⟩
          refine ⟨_, rfl, _, _, rfl, rfl, by decide, fun b b0 b1 => ?_⟩
          refine ⟨_, rfl, _, rfl, _, _, rfl, rfl, .inl (by constructor <;> decide), fun z3 hz3 => ?_⟩
          refine ⟨_, _, rfl, rfl, _, _, rfl, rfl, .inl (by constructor <;> omega), fun z4 hz4 => ?_⟩
          refine ⟨_, rfl, _, _, rfl, rfl, .inl (by constructor <;> decide), fun z5 hz5 => ?_⟩
          refine ⟨_, rfl, _, _, rfl, rfl, .inl (by constructor <;> omega), fun z6 hz6 => ?_⟩
          have z40 : 0 ≤ z4 ∧ z4 ≤ 2147483647 * 2010000 := by
            subst hz4
            have a1 : 0 ≤ z3 + 605 := by omega
            have a2 : z3 + 605 ≤ 2010000 := by omega
            exact ⟨Int.mul_nonneg b0 a1, Int.le_trans (Int.mul_le_mul_of_nonneg_right (by omega) a1) (Int.mul_le_mul_of_nonneg_left a2 (by decide))⟩
          have z60 : 0 ≤ z6 ∧ z6 ≤ 51823 * 1000000 * 1000000 := by
            subst hz6
            have a1 : 0 ≤ t := t0
            have a2 : t ≤ 1000000 := by omega
            have a3 : 0 ≤ z5 := by omega
            exact ⟨Int.mul_nonneg a3 a1, Int.le_trans (Int.mul_le_mul_of_nonneg_right (by omega) a1) (Int.mul_le_mul_of_nonneg_left a2 (by decide))⟩
          refine ⟨_, _, rfl, rfl, _, _, rfl, rfl, _, _, rfl, rfl, by decide, by decide, by omega, fun z7 => ?_⟩
          refine ⟨_, rfl, _, _, rfl, rfl, by decide, fun d d0 d1 => ?_⟩
          refine ⟨_, rfl, _, _, rfl, rfl, by decide, by decide, fun q z8 _ _ _ => ?_⟩
          refine ⟨_, rfl, _, rfl, _, _, rfl, rfl, by omega, fun r2 r20 r21 => ?_⟩
          exact fin r2 (t + 1) g _ r20 r21 (by omega) (by omega) hp1 fr1
theorem kp_pen (T : Txt K mg) : Kf P w K mg base 1 "_law_pen" ["_law_script"] (spPen K) := by
  refine T.d_pen.okF sc_lpen (fun vs H Q E h => ?_) (fun f cdv A outer s H vs Q E hA hr h => ?_)
  · obtain ⟨a, ns, rfl, _⟩ := h
    rfl
  · obtain ⟨a, ns, rfl, hs, hlen, k⟩ := h
    refine ⟨_, (pss_one (ps_ret (pe_lst (pa_cons (pe_callTy call_list_of (by rfl) (T.nb _ (by decide)) (by decide +kernel) (pa_cons (pe_slice (sl_list : SlR _ (rSlL K)) (pv 0) po_none (po_some (pe_int))) pa_nil)) (pa_cons (pe_int) (pa_cons (pe_int) pa_nil)))))), ?_⟩
    refine ⟨_, rfl, _, rfl, _, _, rfl, hs, fun q hq => ?_⟩
    refine ⟨_, _, rfl, .inl (SqL.of upd_same), fun c hc => ?_⟩
    refine ⟨(by show 3 ≤ sizeLine; decide), fun p hp => ?_⟩
    have e : cutV (ns.map V.int) none (some 63) = ns.map V.int := by
      have l : (ns.map V.int).length ≤ 63 := by rw [List.length_map]; exact hlen
      have q : cutV (ns.map V.int) none (some 63) = ((ns.map V.int).drop (HT.sIx (ns.map V.int).length 0 none)).take
          (HT.sIx (ns.map V.int).length (ns.map V.int).length (some ((63 : Nat) : Int)) - HT.sIx (ns.map V.int).length 0 none) := rfl
      rw [q, HT.sIx_nat, HT.sIx_none, List.drop_zero]
      exact List.take_of_length_le (by omega)
    have hH : H p = none := (Same.trans (Same.new hq) (Same.new hc)).free hp
    refine k p c _ hH ((Same.new hq).free hc) ((Same.new hq).trans ((Same.new hc).trans (Same.new hp))) ⟨0, 0, upd_same, ?_, ?_, by omega, by omega⟩
    · refine upd_new hp ?_
      rw [upd_same, e]
    · intro z
      rw [z, upd_same] at hp
      cases hp
def spPick : Sp := fun vs H Q _ => ∃ (p c l : Addr) (xs : List V) (ns : List Int) (n : Nat),
  vs = [.ref p, .ref l] ∧ PenAt H p c ns n ∧ ns.length ≤ 63 ∧ H l = some (.lst xs) ∧ l ≠ p ∧ 0 < xs.length ∧
  xs.length < 1000000 ∧ n < 1000000 ∧
  ∀ (v : V) (H' : Hp), v ∈ xs → PenAt H' p c ns (n + 1) → But p H H' → Q v H'
theorem kp_pick (T : Txt K mg) : Kf P w K mg base 2 "_law_pick" ["_law_pen_here", "_law_some_here"] spPick := by
  refine T.d_pick.okF sc_lpick (fun vs H Q E h => ?_) (fun f cdv A outer s H vs Q E hA hr h => ?_)
  · obtain ⟨p, c, l, xs, ns, n, rfl, _⟩ := h
    rfl
  · obtain ⟨p, c, l, xs, ns, n, rfl, hp, hlen, hl, ne, h0, h1, hn, k⟩ := h
    refine ⟨_, (pss_one (ps_ret (pe_ix (ix_list : IxR _ (rIxL K)) (pv 1) (pe_kf (kp_draw T) hA hr (by rfl) (pa_cons (pv 0) (pa_cons (pe_callB call_len (by rfl) (T.nb _ (by decide)) PySem.boot_len (pa_cons (pv 1) pa_nil)) pa_nil))) (fun _ _ => rfl)))), ?_⟩
    refine ⟨_, rfl, _, rfl, _, rfl, _, _, rfl, len_lst hl, ?_⟩
    refine ⟨p, c, _, ns, n, rfl, hp, hlen, by omega, by omega, hn, fun r H' r0 r1 hp' hb => ?_⟩
    obtain ⟨x, hx, hm⟩ := at_in (xs := xs) r0 (by omega)
    exact ⟨_, _, _, _, rfl, rfl, SqL.of (hb l ne _ hl), hx, k x H' hm hp' hb⟩
/-- a told value -/
def vO : Option Int → V
  | none => .non
  | some i => .int i
def spIsInt : Sp := fun vs H Q _ => ∃ i : Int, vs = [.int i] ∧ Q (.bl true) H
theorem kp_is_integer (T : Txt K mg) : Kf P w K mg base 1 "is_integer" ["value"] spIsInt := by
  refine T.d_isint.okF sc_isint (fun vs H Q E h => ?_) (fun f cdv A outer s H vs Q E hA hr h => ?_)
  · obtain ⟨i, rfl, _⟩ := h
    rfl
  · obtain ⟨i, rfl, k⟩ := h
    refine ⟨_, (pss_one (ps_ret ((pe_and (pe_callB call_isi (by rfl) (T.nb _ (by decide)) (by decide +kernel) (pa_cons (pv 0) (pa_cons (pe_bltn (v := .ty "int") (by rfl) (T.nb _ (by decide)) (by decide +kernel) rfl) pa_nil))) (pe_one (pe_not (pe_callB call_isi (by rfl) (T.nb _ (by decide)) (by decide +kernel) (pa_cons (pv 0) (pa_cons (pe_bltn (v := .ty "bool") (by rfl) (T.nb _ (by decide)) (by decide +kernel) rfl) pa_nil))))))))), ?_⟩
    refine ⟨_, rfl, .int i, _, _, _, true, rfl, .ty "int", .base (.int i), kit_ty (by decide +kernel), true, rfl, iteT ?_⟩
    refine ⟨_, rfl, .int i, _, _, _, false, rfl, .ty "bool", .base (.int i), kit_ty (by decide +kernel), false, rfl, ?_⟩
    exact k
def spGains (K : PySem.W.Frag) : Sp := fun vs H Q _ => ∃ (a : Addr) (gs : List Int), vs = [.ref a] ∧
  SqS K H a (gs.map V.int) ∧ 1 ≤ gs.length ∧ gs.length ≤ 60 ∧ ∀ H', Same H H' → Q (.bl true) H'
theorem kp_are_gains (T : Txt K mg) : Kf P w K mg base 2 "are_gains" ["gains"] (spGains K) := by
  refine T.d_aregains.okF sc_aregains (fun vs H Q E h => ?_) (fun f cdv A outer s H vs Q E hA hr h => ?_)
  · obtain ⟨a, gs, rfl, _⟩ := h
    rfl
  · obtain ⟨a, gs, rfl, hs, l1, l2, k⟩ := h
    refine ⟨_, (pss_cons (ps_if (PW.pt (pw_or (pt_not (pt_val (pe_callB call_isiT (by rfl) (T.nb _ (by decide)) (by decide +kernel) (pa_cons (pv 0) (pa_cons (pe_tup (pa_cons (pe_bltn (v := .ty "list") (by rfl) (T.nb _ (by decide)) (by decide +kernel) rfl) (pa_cons (pe_bltn (v := .ty "tuple") (by rfl) (T.nb _ (by decide)) (by decide +kernel) rfl) pa_nil))) pa_nil))))) (pw_or (pt_cmpR op_lt (pe_callB call_len (by rfl) (T.nb _ (by decide)) PySem.boot_len (pa_cons (pv 0) pa_nil)) (pe_int) (nomark _)) (pw_or1 (pt_cmpR op_gt (pe_callB call_len (by rfl) (T.nb _ (by decide)) PySem.boot_len (pa_cons (pv 0) pa_nil)) (pe_cst (by rfl) T.c_gains) (nomark _))))))
 (pss_one (ps_ret (pe_bl))) pss_nil)
 (pss_one (ps_ret (pe_callB (cr_all rfl) (by rfl) (T.nb _ (by decide)) (by decide +kernel) (pa_cons (pe_lc (own := [("gain", 1)]) (g := gName 1) (tt := tYes) rfl sc_aregains.nd (pi_seq (pv 0)) (blkOk_by (N := n_aregains) (sc := defScope s_aregains) (by decide +kernel)) (fun _ _ _ _ _ => pg_name (i := 1) sc_aregains.nd rfl (Or.inl rfl)) (fun _ _ _ _ _ => pts_nil) (fun _ _ _ _ _ => (pe_kf (kp_is_integer T) hA hr (by rfl) (pa_cons (pv 1) pa_nil)))) pa_nil))))), ?_⟩
    refine ⟨_, rfl, (by show 2 ≤ sizeLine; decide), fun p hp => ?_⟩
    have s1 : Same H (upd H p (.tup [.ty "list", .ty "tuple"])) := Same.new hp
    have hs1 := hs.new s1
    obtain ⟨ty, ht, tyx⟩ := hs1.ty
    refine ⟨.ref a, p, _, _, _, true, rfl, upd_same, .cons (.ty _) (.cons (.ty _) .nil), tyx, kit_lt ht, _, rfl, iteF ?_⟩
    refine ⟨_, rfl, _, _, rfl, hs1.len, _, _, rfl, rfl, _, rfl, ?_⟩
    rw [List.length_map, decide_eq_false (by omega)]
    refine iteF ?_
    refine ⟨_, rfl, _, _, rfl, hs1.len, _, _, rfl, rfl, _, rfl, ?_⟩
    rw [List.length_map, decide_eq_false (by omega)]
    refine iteF ?_
    dsimp only [tNext, tRet, tCB, tCons]
    refine tlc_seq (r := fun _ _ => some (.bl true)) hs1 ?_ (fun R h => ⟨_, rfl, h⟩) ?_ ?_
    · rw [List.length_map]
      exact Nat.le_trans l2 (by decide)
    · intro i x H' hx _ Ky Kn hy _
      obtain ⟨n, hn, rfl⟩ : ∃ n, gs[i]? = some n ∧ x = .int n := by
        rw [List.getElem?_map] at hx
        cases e : gs[i]? with
        | none => rw [e] at hx; cases hx
        | some n => rw [e] at hx; exact ⟨n, rfl, (Option.some.inj hx).symm⟩
      refine ⟨rfl, yes_run ?_⟩
      exact ⟨_, rfl, n, rfl, hy _ rfl⟩
    · intro D hD
      have e := all_true (gs.map V.int)
      refine ⟨D, ((gs.map V.int).map fun _ => true), rfl, ?_, ?_⟩
      · rw [e]
        exact SqL.of upd_same
      · have q : ((gs.map V.int).map fun _ => true).all id = true := by simp
        show Q (.bl (((gs.map V.int).map fun _ => true).all id)) _
        rw [q]
        exact k _ (s1.trans (Same.new hD))
theorem opt_at {ts : List (Option Int)} {i : Nat} {x : V} (hx : (ts.map vO)[i]? = some x) : ∃ o, ts[i]? = some o ∧ x = vO o := by
  rw [List.getElem?_map] at hx
  cases e : ts[i]? with
  | none => rw [e] at hx; cases hx
  | some n => rw [e] at hx; exact ⟨n, rfl, (Option.some.inj hx).symm⟩
theorem fm_none : ∀ (xs : List V) (k : Nat), fm (fun _ _ => none) k xs = []
  | [], _ => rfl
  | x :: xs, k => by
    unfold fm
    rw [fm_none xs (k + 1)]
    rfl
def spTold (K : PySem.W.Frag) : Sp := fun vs H Q _ => ∃ (a : Addr) (ts : List (Option Int)) (least : Int), vs = [.ref a, .int least] ∧
  SqS K H a (ts.map vO) ∧ least ≤ ts.length ∧ ts.length ≤ 100000 ∧ ∀ H', Same H H' → Q (.bl true) H'
theorem kp_are_told (T : Txt K mg) : Kf P w K mg base 2 "are_told" ["told", "least"] (spTold K) := by
  refine T.d_aretold.okF sc_aretold (fun vs H Q E h => ?_) (fun f cdv A outer s H vs Q E hA hr h => ?_)
  · obtain ⟨a, ts, l, rfl, _⟩ := h
    rfl
  · obtain ⟨a, ts, l, rfl, hs, l1, l2, k⟩ := h
    refine ⟨_, (pss_cons (ps_if (PW.pt (pw_or (pt_not (pt_val (pe_callB call_isiT (by rfl) (T.nb _ (by decide)) (by decide +kernel) (pa_cons (pv 0) (pa_cons (pe_tup (pa_cons (pe_bltn (v := .ty "list") (by rfl) (T.nb _ (by decide)) (by decide +kernel) rfl) (pa_cons (pe_bltn (v := .ty "tuple") (by rfl) (T.nb _ (by decide)) (by decide +kernel) rfl) pa_nil))) pa_nil))))) (pw_or1 (pt_cmpR op_lt (pe_callB call_len (by rfl) (T.nb _ (by decide)) PySem.boot_len (pa_cons (pv 0) pa_nil)) (pv 1) (nomark _)))))
 (pss_one (ps_ret (pe_bl))) pss_nil)
 (pss_cons (ps_setLc (i := 2) (own := [("value", 3)]) (g := gName 3) rfl sc_aretold.nd rfl rfl (sw_true rfl rfl rfl (by decide +kernel)) (pi_seq (pv 0)) (blkOk_by (N := n_aretold) (sc := defScope s_aretold) (by decide +kernel)) (fun _ _ _ _ _ => pg_name (i := 3) sc_aretold.nd rfl (Or.inl rfl)) (fun _ _ _ _ _ => (pts_one (PW.pt (pw_and (pt_cmpR op_notN (pv 3) (pe_non) (nomark _)) (pw_and1 (PW.pt (pw_or (pt_cmpR op_isIB (pv 3) (pe_bl) (nomark _)) (pw_or (pt_cmpR op_isIB (pv 3) (pe_bl) (nomark _)) (pw_or1 (pt_not (pt_val (pe_callB (id := "isinstance") (r := rIsi K) call_isi (by rfl) (T.nb _ (by decide)) (by decide +kernel) (pa_cons (pv 3) (pa_cons (pe_bltn (v := .ty "int") (by rfl) (T.nb _ (by decide)) (by decide +kernel) rfl) pa_nil)))))))))))))) (fun _ _ _ _ _ => (pv 3)))
 (pss_one (ps_ret (pe_cmpR op_eq (pe_callB call_len (by rfl) (T.nb _ (by decide)) PySem.boot_len (pa_cons (pv 2) pa_nil)) (pe_int) (nomark _)))))), ?_⟩
    refine ⟨_, rfl, (by show 2 ≤ sizeLine; decide), fun p hp => ?_⟩
    have s1 : Same H (upd H p (.tup [.ty "list", .ty "tuple"])) := Same.new hp
    have hs1 := hs.new s1
    obtain ⟨ty, ht, tyx⟩ := hs1.ty
    refine ⟨.ref a, p, _, _, _, true, rfl, upd_same, .cons (.ty _) (.cons (.ty _) .nil), tyx, kit_lt ht, _, rfl, iteF ?_⟩
    refine ⟨_, rfl, _, _, rfl, hs1.len, _, rfl, _, _, rfl, rfl, _, rfl, ?_⟩
    rw [List.length_map, decide_eq_false (by omega)]
    refine iteF ?_
    dsimp only [tNext, tRet, tSeq, tAsg]
    refine tlc_seq (r := fun _ _ => none) hs1 ?_ (fun R h => ⟨_, rfl, h⟩) ?_ ?_
    · rw [List.length_map]
      exact Nat.le_trans l2 (by decide)
    · intro i x H' hx _ Ky Kn hy hn
      obtain ⟨o, ho, rfl⟩ := opt_at hx
      cases o with
      | none =>
        refine ⟨rfl, ?_⟩
        exact ⟨_, rfl, rfl, _, rfl, iteF (hn rfl)⟩
      | some n =>
        refine ⟨rfl, ?_⟩
        refine ⟨_, rfl, rfl, _, rfl, iteT ?_⟩
        refine ⟨_, rfl, n, true, rfl, rfl, _, rfl, iteF ?_⟩
        refine ⟨_, rfl, n, false, rfl, rfl, _, rfl, iteF ?_⟩
        refine ⟨_, rfl, .int n, _, _, _, true, rfl, .ty "int", .base (.int n), kit_ty (by decide +kernel), true, rfl, iteF ?_⟩
        exact hn rfl
    · intro D hD
      rw [fm_none]
      refine ⟨_, rfl, _, _, rfl, len_lst upd_same, rfl, ?_⟩
      exact k _ (s1.trans (Same.new hD))
end
end KG
namespace L2
open PySem PySem.Spec PyProof.Rows
end L2
namespace L2
open PySem PySem.Spec PyProof.Rows
/-- a reading may be made weaker -/
theorem PE.weaker {X : Cx} {e : Expr} {t t' : TE} (h : PE X e t) (imp : ∀ σ H Q, t' σ H Q → t σ H Q) : PE X e t' :=
  ⟨fun pins s σ H Q I z => h.run pins s σ H Q I (imp σ H Q z)⟩
/-- a def of a class, its own text -/
abbrev MD (K : PySem.W.Frag) (x qual : Str) (st : Stmt) (dvs : List V) (f : Addr) (fd : FuncData) : Prop :=
  FunD K x qual (defArgs st) (defBody st) (defScope st) dvs [] f fd
section
variable {P : Program} {w : World} {K : PySem.W.Frag} {mg : Str → Option Value} {base : Heap}
theorem FunD.okM {x qual : Str} {st : Stmt} {dvs : List V} {f : Addr} {fd : FuncData} {N ps : List Str} {k : Nat} {sp : Sp}
    (F : MD K x qual st dvs f fd)
    (S : FnScope N ps (defScope st)) (len : ∀ vs H Q E, sp vs H Q E → vs.length = ps.length)
    (hbody : ∀ (f : Addr) (cdv : Value) (A : Around) (outer : List Env) (s : Shared) (H : Hp) (vs : List V) (Q : VK)
      (E : XK), True →
      Room k (A.deeper (envOfC qual (defScope st) s.heap.objs.size f cdv)) → sp vs H Q E →
      ∃ t, PSs (cxOf CX0 P w K mg base N qual (defScope st) f cdv A outer s H E).nox (defBody st) t ∧
        t { nx := fun _ H' => Q .non H', rt := Q } (start N vs) H) :
    FnOk P w K mg base CX0 (k + 1) f fd ps sp :=
  F.ok S len fun cdv A outer s H vs Q E hr h =>
    have ⟨t, ht, q⟩ := hbody f cdv A outer s H vs Q E trivial hr h
    ⟨t, ht.nox, q⟩
/-- what a property keeps -/
def Kpr (P : Program) (w : World) (K : PySem.W.Frag) (mg : Str → Option Value) (base : Heap) (C : Addr) (k : Nat) (x : Str)
    (sp : Sp) : Prop :=
  ∃ p g fd, PropOf K C x p g ∧ Binds K fd ["self"] [] ∧ FnOk P w K mg base CX0 k g fd ["self"] sp
/-- what making an object keeps, all arguments given -/
def Kmk (P : Program) (w : World) (K : PySem.W.Frag) (mg : Str → Option Value) (base : Heap) (C : Addr) (k : Nat) (ps : List Str)
    (sp : Sp) (Dv : V → Prop) : Prop :=
  ∃ f fd d, Mk K C f ∧ Binds K fd ps [] ∧ (∃ ds, Vals [d] ds ∧ Binds K fd ps ds) ∧ Dv d ∧ FnOk P w K mg base CX0 k f fd ps sp
/-- C(e) where one more parameter has a default -/
def tMake1 (C : Addr) (sp : Sp) (Dv : V → Prop) (E : XK) (t : TA) : TE := fun σ H Q => t σ H fun vs H1 =>
  ∀ x dx d, H1 x = none → H1 dx = none → dx ≠ x → Dv d →
    sp (.ref x :: (vs ++ [d])) (upd (upd H1 dx (.own x)) x (.ins C dx [])) (fun v H2 => v = .non ∧ Q (.ref x) H2) E
end
section
variable {X : Cx} {k j : Nat} {ps : List Str} {sp : Sp} {x : Str} {p pos : Pos} {e : Expr} {es : List Expr} {t : TA} {C : Addr}
  {Dv : V → Prop}
theorem pe_kpr {ta : TE} (F : Kpr X.prog X.w X.K X.mg X.base C k x sp) (hC : Cls X.K C) (hr : Room j X.A) (he : PE X e ta)
    (hj : k + 1 ≤ j := by decide) (hx : Passes CX0 X.nox E0 := by exact pass0)
    (hb : attributeBase e x X.env (eval e X.env) = eval e X.env := by rfl) :
    PE X (.Attribute e x pos) (tProp C sp [] E0 ta) := by
  obtain ⟨p, g, fd, hp, hbd, F⟩ := F
  exact pe_prop he hC hp F (hr.mono hj) hbd .nil hx hb
theorem pe_kmk (F : Kmk X.prog X.w X.K X.mg X.base C k ps sp Dv) (hr : Room j X.A) (hg : Gl X x) (hm : X.mg x = some (.ref C))
    (ha : PA X (e :: es) t) (hj : k + 1 ≤ j := by decide) (hdb : (x == ("__debug__" : Str)) = false := by decide)
    (he : starEach (e :: es) X.env = (false, eval e X.env) :: starEach es X.env := by rfl)
    (hpl : (backTo pos (starEach es X.env)).any (·.1) = false := by rfl) (hx : Passes CX0 X E0 := by exact pass0) :
    PE X (.Call (.Name x p) (e :: es) [] pos) (tMake C sp [] E0 t) := by
  obtain ⟨f, fd, d, M, b, _, _, F⟩ := F
  exact pe_make M F (hr.mono hj) hg hm b .nil hx ha hdb he hpl
theorem pe_kmk1 (F : Kmk X.prog X.w X.K X.mg X.base C k ps sp Dv) (hr : Room j X.A) (hg : Gl X x) (hm : X.mg x = some (.ref C))
    (ha : PA X (e :: es) t) (mono : ∀ σ H (Q Q' : List V → Hp → Prop), (∀ vs H', Q vs H' → Q' vs H') → t σ H Q → t σ H Q')
    (hj : k + 1 ≤ j := by decide) (hdb : (x == ("__debug__" : Str)) = false := by decide)
    (he : starEach (e :: es) X.env = (false, eval e X.env) :: starEach es X.env := by rfl)
    (hpl : (backTo pos (starEach es X.env)).any (·.1) = false := by rfl) (hx : Passes CX0 X E0 := by exact pass0) :
    PE X (.Call (.Name x p) (e :: es) [] pos) (tMake1 C sp Dv E0 t) := by
  obtain ⟨f, fd, d, M, _, ⟨ds, hd, b⟩, dv, F⟩ := F
  refine (pe_make M F (hr.mono hj) hg hm b hd hx ha hdb he hpl).weaker fun σ H Q h => ?_
  exact mono σ H _ _ (fun vs H1 z x dx a1 a2 a3 => z x dx d a1 a2 a3 dv) h
end
end L2
namespace PySem.W
open Lean Elab Tactic Meta PySem PySem.Calls PyProof.Rows
section
variable {prog : Program} {w : World} {M : Model} {A : Around} {E : Value → Shared → Prop} {s : Shared} {K : Frag} {x y C L f : Addr} {h₀ : Heap} {m : Str → Option Value} {ox oy : Obj} {od od' : Option Obj} {nm T : String}
/-- both of one class -/
theorem q15_b1C {Q : Value → Shared → Prop} (X : K.In s.heap) (I : InstAt s.heap x ox C od) (J : InstAt s.heap y oy C od') (hc : selfFirst K C = true)
    (hs : findIn K (.ref C) (PySem.dunder nm) = some (some (.ref f))) (hf : isFn K (.ref f) = true)
    (h : wpAny (model prog w) A (call (.ref f) [.ref x, .ref y]) (CmpBack Q) E s) :
    wpAny (model prog w) A (binaryOp1 nm (.ref x) (.ref y)) (fun r s' => ∃ v, r = some v ∧ Q v s') E s := by
  obtain ⟨cd, rest, hcd, hm⟩ := ksp_first hc
  have one := ksp_try X I hs hf h
  obtain ⟨hh, g, d, tt, os⟩ := s
  have L1 : Looks (model prog w) hh (typeOf (.ref x)) (.ref C) := I.type
  have L2 : Looks (model prog w) hh (typeOf (.ref y)) (.ref C) := J.type
  have L3 : Looks (model prog w) hh (fillsNumberSlot (.ref C) nm) true := fills_K X hcd hm hs
  have hne : (Value.ref C == Value.ref C) = true := beq_self_eq_true _
  unfold binaryOp1
  refine wpAny_bind (L1.at (wpAny_bind (L2.at (wpAny_bind (L3.at ?_)))))
  simp only [hne, if_true]
  ksp_lk
  refine wpAny_mono one (fun r s' hr' => ?_) fun _ _ e => e
  obtain ⟨v, rfl, hq⟩ := hr'
  ksp_lk
  exact ⟨_, rfl, hq⟩
theorem q15_binC {op : Operator} {Q : Value → Shared → Prop} (X : K.In s.heap) (I : InstAt s.heap x ox C od) (J : InstAt s.heap y oy C od') (hc : selfFirst K C = true)
    (hs : findIn K (.ref C) (PySem.dunder op.info.2) = some (some (.ref f))) (hf : isFn K (.ref f) = true)
    (h : wpAny (model prog w) A (call (.ref f) [.ref x, .ref y]) (CmpBack Q) E s) : wpAny (model prog w) A (binaryOp op (.ref x) (.ref y)) Q E s := by
  rcases hi : op.info with ⟨sym, nm'⟩
  rw [hi] at hs
  dsimp only at hs
  simp only [binaryOp, hi]
  refine wpAny_holding (wpAny_bind (wpAny_mono (q15_b1C X I J hc hs hf h) (fun r s' hr' => ?_) fun _ _ e => e))
  obtain ⟨v, rfl, hq⟩ := hr'
  exact wpAny_pure hq
/-- a class that stands right below object -/
def plainIn (K : Frag) (C : Addr) : Bool := (clsIn K C).any fun cd => cd.mro == [.ref C, .type "object"]
open Builtin in
/-- != by the class's own ==, the word of object -/
theorem q15_objNe (hu : A.units < cLine) (X : K.In s.heap) (I : InstAt s.heap x ox C od) (hs : findIn K (.ref C) "__eq__" = some (some (.ref f))) (hf : isFn K (.ref f) = true) {Q : Fin → Shared → Prop}
    (hcall : wpAny (model prog w) A (call (.ref f) [.ref x, .ref y]) (fun v s' => ∃ b, v = .bool b ∧ Q (.done (.ret (.bool (!b)))) s') E s) :
    wpAny (model prog w) A (Builtin.«object.__ne__» ⟨[.ref x, .ref y], []⟩) Q E s := by
  obtain ⟨h, g, d, t, os⟩ := s
  unfold Builtin.«object.__ne__»
  repeat (first
    | with_reducible refine wpAny_cRoomFor hu ?_
    | (refine wpAny_bind (m := callSpecialIfBound? (.ref x) (Str.ofString "__eq__") [.ref y])
        (ifBound_K X I hs hf (wpAny_mono hcall (fun r s' hr => by
          obtain ⟨b, rfl, hq⟩ := hr
          repeat (first | exact hq | exact wpAny_pure hq | exact wpAny_truthy_bool hq | (refine wpAny_bind (m := truthy (.bool _)) (wpAny_truthy_bool ?_)) | wp_step)) fun _ _ e => e)))
    | wp_step)
theorem q15_neB {args : List Value} {Q : Option Value → Shared → Prop} (X : K.In s.heap) (I : InstAt s.heap x ox C od) (hn : findIn K (.ref C) "__ne__" = some (some (.builtin "object.__ne__")))
    (h : wpAny M A (call (.builtin "object.__ne__") (.ref x :: args)) (fun v => Q (some v)) E s) : wpAny M A (callSpecialIfBound? (.ref x) "__ne__" args) Q E s := by
  simp only [callSpecialIfBound?, bindSpecialIfBound?]
  refine wpAny_holding (wpAny_bind (wpAny_bind (wpAny_bind (I.type.here ((looks_findIn X hn).here ?_)))))
  simp only [F.cmp_object.ne.bind]
  refine wpAny_bind (wpAny_askSetting (wpAny_ite ?_))
  have fin : wpAny M A (call (.builtin "object.__ne__") ([.ref x] ++ args) >>= fun v => pure (some v)) Q E s := wpAny_bind (wpAny_mono h (fun v s' h' => wpAny_pure h') fun _ _ h' => h')
  split
  · exact wpAny_bind (wpAny_pure (wpAny_pure (by exact fin)))
  · exact wpAny_tryCatch (wpAny_bind (wpAny_pure (wpAny_pure (by exact fin))))
theorem q15_ne {Q : Value → Shared → Prop} (hu : A.units + 1 < cLine) (X : K.In s.heap) (I : InstAt s.heap x ox C od) (J : InstAt s.heap y oy C od')
    (hn : findIn K (.ref C) "__ne__" = some (some (.builtin "object.__ne__"))) (hs : findIn K (.ref C) "__eq__" = some (some (.ref f))) (hf : isFn K (.ref f) = true) (hO : subIn K (.ref C) (.type "object") = some true)
    (h : wpAny (model prog w) A.in1 (call (.ref f) [.ref x, .ref y]) (fun v s' => ∃ b, v = .bool b ∧ Q (.bool (!b)) s') E s) :
    wpAny (model prog w) A (compareOp .NotEq (.ref x) (.ref y)) Q E s := by
  have one : wpAny (model prog w) A (tryCompare (.ref x) "__ne__" (.ref y)) (fun r s' => ∃ v, r = some v ∧ Q v s') E s := by
    unfold tryCompare
    refine wpAny_bind (q15_neB X I hn (wpAny_call (codeAny_call_builtin F.cmp_object.ne.plain F.cmpEntry_ne
      (@check_slot (model prog w) _ _ s "object.__ne__" "object" "__ne__" (.ref x) [.ref y] [] _ F.cmpKind_ne F.cmpSplit_ne (I.type.andThen (looks_subIn X hO)) (F.cmpArgs_ne _ _)
        (q15_objNe (A := A.in1) hu X I hs hf (wpAny_mono h (fun v s' hv => ?_) fun _ _ e => e))))))
    obtain ⟨b, rfl, hq⟩ := hv
    first | exact ⟨b, rfl, wpAny_pure ⟨_, rfl, hq⟩⟩ | exact ⟨b, rfl, wpAny_pure (wpAny_pure ⟨_, rfl, hq⟩)⟩
  show wpAny _ _ (richCompare .NotEq (.ref x) (.ref y)) _ _ _
  unfold richCompare
  simp only [oneThing_ref]
  refine wpAny_holding ?_
  refine wpAny_bind (wpAny_cRoomFor (Nat.lt_of_succ_lt hu) ?_)
  rw [cmpInfo_NotEq]
  dsimp only
  refine wpAny_bind (I.type.here (wpAny_bind (J.type.here ?_)))
  rw [show (Value.ref C != Value.ref C) = false from by simp]
  simp only [Bool.false_eq_true, if_false]
  refine wpAny_bind (wpAny_pure ?_)
  simp only [Bool.false_eq_true, if_false]
  refine wpAny_bind (wpAny_mono one (fun r s' z => ?_) fun _ _ e => e)
  obtain ⟨v, rfl, hq⟩ := z
  exact wpAny_pure hq
end
end PySem.W
namespace L2
open PySem PySem.Spec PyProof.Rows
section
variable {X : Cx} {pins : List (Addr × Obj)} {σ : St} {H : Hp} {s : Shared}
theorem RelV.back {v : V} {u : Value} (r : RelV v u) : u ≠ .notImplemented := by
  intro z
  subst z
  cases v with
  | non => exact nomatch (show Value.notImplemented = Value.none from r)
  | bl b => exact nomatch (show Value.notImplemented = Value.bool b from r)
  | int i => obtain ⟨t, e⟩ := r; cases e
  | str i => obtain ⟨t, e⟩ := r; cases e
  | byt i => obtain ⟨t, e⟩ := r; cases e
  | flt i => obtain ⟨t, e⟩ := r; cases e
  | ref a => exact nomatch (show Value.notImplemented = Value.ref a from r)
  | ty n => exact nomatch (show Value.notImplemented = Value.type n from r)
theorem ep_back {Q : VK} {u : Value} {s' : Shared} (h : EP X pins σ Q u s') : PySem.W.CmpBack (EP X pins σ Q) u s' := by
  obtain ⟨v, H', I', r, q⟩ := id h
  have nb := r.back
  cases u <;> first | exact absurd rfl nb | exact h
theorem ty_looks {M : Model} {x : V} {u t : Value} (I : Inv X pins σ H s) (rx : RelV x u) (ty : TyOf X.K H x t) : PySem.W.Looks M s.heap (typeOf u) t := by
  cases ty with
  | non => cases (show u = Value.none from rx); exact .of_pure rfl
  | bl y => cases (show u = Value.bool y from rx); exact .of_pure rfl
  | int i => obtain ⟨t, q⟩ := (show ∃ t, u = Value.int i t from rx); cases q; exact .of_pure rfl
  | str y => obtain ⟨t, q⟩ := (show ∃ t, u = Value.str y t from rx); cases q; exact .of_pure rfl
  | flt y => obtain ⟨t, q⟩ := (show ∃ t, u = Value.float y t from rx); cases q; exact .of_pure rfl
  | @lst a xs ea =>
    cases (show u = Value.ref a from rx)
    obtain ⟨_, _, n, _, h1⟩ := (show ObjOk X.prog X.w H s.heap a (.lst xs) from I.hok a _ ea)
    exact (PySem.W.Looks.ld h1).andThen .now
  | @frz a ob xs ea =>
    cases (show u = Value.ref a from rx)
    obtain ⟨_, _, _, n, _, h1⟩ := (show ObjOk X.prog X.w H s.heap a (.frz ob (.lst xs)) from I.hok a _ ea)
    exact (PySem.W.Looks.ld h1).andThen .now
  | @tup a xs ea =>
    cases (show u = Value.ref a from rx)
    obtain ⟨_, _, _, p⟩ := (show ObjOk X.prog X.w H s.heap a (.tup xs) from I.hok a _ ea)
    obtain ⟨o, h1, h2, _⟩ := p
    exact h2 ▸ (PySem.W.Looks.ld h1).andThen .now
  | @dK a kvs ea =>
    cases (show u = Value.ref a from rx)
    obtain ⟨_, _, vs, _, p⟩ := (show ObjOk X.prog X.w H s.heap a (.dK kvs) from I.hok a _ ea)
    obtain ⟨o, es, ep, h1, h2, _⟩ := p
    exact h2.1 ▸ (PySem.W.Looks.ld h1).andThen .now
  | @dT a kvs ea =>
    cases (show u = Value.ref a from rx)
    obtain ⟨_, _, xs, _, o, es, ep, h1, h2, _⟩ := (show ObjOk X.prog X.w H s.heap a (.dT kvs) from I.hok a _ ea)
    exact h2.1 ▸ (PySem.W.Looks.ld h1).andThen .now
  | @ins a C dx fs ea cl ha hn htk hm =>
    cases (show u = Value.ref a from rx)
    obtain ⟨mA, O, _⟩ := ins_get I.hok ea
    obtain ⟨od, J, _⟩ := O.look
    exact J.type
theorem ins_at {C a dx : Addr} {fs : List (Str × V)} (I : Inv X pins σ H s) (e : H a = some (.ins C dx fs)) : ∃ od, PySem.W.InstAt s.heap a (PySem.W.instObj C dx) C (some od) := by
  obtain ⟨mA, O, _⟩ := ins_get I.hok e
  obtain ⟨od, J, _⟩ := O.look
  exact ⟨od, J⟩
end
/-- what a method of a class keeps that Python calls by itself -/
def Kop (P : Program) (w : World) (K : PySem.W.Frag) (mg : Str → Option Value) (base : Heap) (C : Addr) (k : Nat) (nm : Str) (ps : List Str) (sp : Sp) : Prop :=
  ∃ f fd, PySem.W.findIn K (.ref C) nm = some (some (.ref f)) ∧ PySem.W.isFn K (.ref f) = true ∧ Binds K fd ps [] ∧ FnOk P w K mg base CX0 k f fd ps sp
/-- a class that stands right below object -/
structure Plain (K : PySem.W.Frag) (C : Addr) : Prop where
  sf : PySem.W.selfFirst K C = true
  pl : PySem.W.plainIn K C = true
  ob : PySem.W.subIn K (.ref C) (.type "object") = some true
  i1 : PySem.W.subIn K (.type "int") (.ref C) = some false
  i2 : PySem.W.subIn K (.ref C) (.type "int") = some false
/-- one of the class, then an int or one of the class -/
def rOwn (C : Addr) (sp : Sp) : R2 := fun x y H Q => ∃ a dx fs, x = .ref a ∧ H a = some (.ins C dx fs) ∧
  ((∃ i, y = .int i) ∨ ∃ b dy gs, y = .ref b ∧ H b = some (.ins C dy gs)) ∧ sp [x, y] H Q E0
/-- != of two of the class, by its own == -/
def rNeO (C : Addr) (sp : Sp) : R2 := fun x y H Q => ∃ a dx fs b dy gs, x = .ref a ∧ H a = some (.ins C dx fs) ∧ y = .ref b ∧ H b = some (.ins C dy gs) ∧
  sp [x, y] H (fun v H' => ∃ k, v = .bl k ∧ Q (.bl (!k)) H') E0
section
variable {X : Cx} {k : Nat} {C : Addr} {sp : Sp} {nm : Str}
theorem run_op {pins : List (Addr × Obj)} {σ : St} {H : Hp} {s : Shared} {Q : VK} {us : List Value} {vs : List V} {f : Addr} {fd : FuncData} {ps : List Str}
    (F : FnOk X.prog X.w X.K X.mg X.base CX0 k f fd ps sp) (hr : Room k X.A) (hb : Binds X.K fd ps []) (I : Inv X pins σ H s) (r : Vals vs us) (h : sp vs H Q E0) (hx : Passes CX0 X E0) :
    wpAny (model X.prog X.w) X.A (call (.ref f) us) (PySem.W.CmpBack (EP X pins σ Q)) X.xe s :=
  wpAny_mono (run_fn (ds := []) (dvs := []) F hr hb .nil hx I r (by simpa using h)) (fun u s' z => ep_back z) fun _ _ z => z
theorem op_own {op : Operator} {fo ro rc : Option Value} {nr : Str} (P : Plain X.K C) (G : Kop X.prog X.w X.K X.mg X.base C k nm ["self", "other"] sp) (hr : Room k X.A)
    (hR' : PySem.W.findIn X.K (.ref C) nr = some rc) (hp : rc = none ∨ ∃ g : Addr, rc = some (.ref g)) (e1 : PySem.dunder op.info.2 = nm := by decide +kernel) (e2 : dunderR op.info.2 = nr := by decide +kernel)
    (h1 : PySem.W.findIn X.K (.type "int") (PySem.dunder op.info.2) = some fo) (h2 : PySem.W.findIn X.K (.type "int") (dunderR op.info.2) = some ro)
    (hx : Passes CX0 X E0 := by exact pass0) : OpR X (binaryOp op) (rOwn C sp) := by
  subst e1 e2
  have hR := hR'
  obtain ⟨f, fd, hs, hf, hb, F⟩ := G
  intro pins s σ H x y v u Q I rx ry h
  obtain ⟨a, dx, fs, rfl, ha, hy, q⟩ := h
  cases (show v = Value.ref a from rx)
  obtain ⟨od, J⟩ := ins_at I ha
  have run := run_op F hr hb I (us := [.ref a, u]) (vs := [.ref a, y]) (.cons rfl (.cons ry .nil)) q hx
  rcases hy with ⟨i, rfl⟩ | ⟨b, dy, gs, rfl, hb'⟩
  · obtain ⟨t, e⟩ := (show ∃ t, u = Value.int i t from ry)
    cases e
    obtain ⟨m, hF⟩ := I.fr
    exact PySem.W.ksp_binT hF I.ok.mod.kin J rfl P.sf hs hf hR hp h1 h2 P.i1 run
  · cases (show u = Value.ref b from ry)
    obtain ⟨od', J'⟩ := ins_at I hb'
    exact PySem.W.q15_binC I.kIn J J' P.sf hs hf run
theorem op_neO (P : Plain X.K C) (G : Kop X.prog X.w X.K X.mg X.base C k "__eq__" ["self", "other"] sp) (hr : Room (k + 1) X.A)
    (hn : PySem.W.findIn X.K (.ref C) "__ne__" = some (some (.builtin "object.__ne__"))) (hx : Passes CX0 X E0 := by exact pass0) : OpR X (compareOp .NotEq) (rNeO C sp) := by
  obtain ⟨f, fd, hs, hf, hb, F⟩ := G
  intro pins s σ H x y v u Q I rx ry h
  obtain ⟨a, dx, fs, b, dy, gs, rfl, ha, rfl, hb', q⟩ := h
  cases (show v = Value.ref a from rx)
  cases (show u = Value.ref b from ry)
  obtain ⟨od, J⟩ := ins_at I ha
  obtain ⟨od', J'⟩ := ins_at I hb'
  refine PySem.W.q15_ne (by have := hr.un; omega) I.kIn J J' hn hs hf P.ob ?_
  have e0 : Env0 X.prog X.w X.K X.mg X.base X.A.in1 X.stack s H := by
    have e := I.env0
    exact ⟨e.frames, e.mod, e.bs, e.bsz, e.funs, e.frf, e.hok, e.bare⟩
  have hl := F.len _ _ _ _ q
  have r2 : Vals [V.ref a, V.ref b] [Value.ref a, Value.ref b] := .cons rfl (.cons rfl .nil)
  refine wpAny_call (codeAny_mono (F.run X.A.in1 X.stack s H ⟨[.ref a, .ref b], []⟩ [.ref a, .ref b] [.ref a, .ref b] _ E0 hr.in1 e0 (by
    have := hb s [.ref a, .ref b] I.kIn (by simpa using hl)
    simpa using this) r2 q) fun r s' hq => ?_)
  cases r with
  | error e => exact hx pins σ H s e s' I hq
  | ok fl =>
    cases fl with
    | ret w =>
      obtain ⟨z, H', I', rz, k', ez, ex⟩ := I.after hq
      subst ez
      cases rz
      exact ⟨k', rfl, .bl (!k'), H', I', rfl, ex⟩
    | next => exact False.elim hq
    | brk => exact False.elim hq
    | cont => exact False.elim hq
end
end L2
namespace L2
open PySem PySem.Spec PyProof.Rows
end L2
namespace L2
open PySem PySem.Spec PyProof.Rows
end L2
namespace L2
open PySem PySem.Spec PyProof.Rows
end L2
namespace L2
open PySem PySem.Spec PyProof.Rows
end L2
namespace L2
open PySem PySem.Spec PyProof.Rows
theorem PA.weaker {X : Cx} {es : List Expr} {ta : TA} (h : PA X es ta) :
    PA X es (fun σ H Q => ∃ Q0, ta σ H Q0 ∧ ∀ vs H1, Q0 vs H1 → Q vs H1) :=
  ⟨fun pos pins s σ H Q I ⟨Q0, z, k⟩ => thn (h.run pos pins s σ H Q0 I z) fun us s1 ⟨vs, H1, I1, r, q⟩ => ⟨vs, H1, I1, r, k _ _ q⟩⟩
end L2
namespace PySem.W
open PySem PySem.Calls PyProof.Rows
end PySem.W
namespace L2
open PySem PySem.Spec PyProof.Rows
end L2
namespace L2
open PySem PySem.Spec PyProof.Rows
/-- v is data and can be shown; its text -/
def Shw (K : PySem.W.Frag) (H : Hp) (v : V) (t : Str) : Prop := ∃ d : PyData, Dq K H v d ∧ d.showable = true ∧ d.depth ≤ 60 ∧
  d.shown.length ≤ sizeLine ∧ t = d.shown
theorem Shw.int {K : PySem.W.Frag} {H : Hp} (i : Int) (h : i.natAbs.log2 < 1920) : Shw K H (.int i) (toString i) :=
  ⟨_, .int i, by simpa [PyData.showable] using h, by simp [PyData.depth], by
    simpa only [PyData.shown] using int_text_fits h, by simp only [PyData.shown]⟩
theorem Shw.str {K : PySem.W.Frag} {H : Hp} (x : Str) (h : (reprText x).length ≤ sizeLine) : Shw K H (.str x) (reprText x) :=
  ⟨_, .str x, by simp [PyData.showable], by simp [PyData.depth], by simpa only [PyData.shown] using h, by simp only [PyData.shown]⟩
end L2
namespace L2
open PySem PySem.Spec PyProof.Rows
/-- a def with the code object cdv -/
structure FunC (K : PySem.W.Frag) (x qual : Str) (st : Stmt) (f : Addr) (fd : FuncData) (cdv : Value) : Prop where
  ex : ∃ (oc : Value) (od : Option Addr) (kV doc pm : Value) (an : Option Addr) (ct : Value) (osl : Array (Option Value)),
    fd = PySem.W.fnOf x qual (defArgs st) (defBody st) (defScope st) .none kV doc pm an cdv ct ∧
      K.lookup f = some ⟨oc, od, .func fd, osl⟩ ∧ PySem.W.codeIn K cdv qual = true
  kp : PySem.W.keepIn K (.ref f) = true
section
variable {P : Program} {w : World} {K : PySem.W.Frag} {mg : Str → Option Value} {base : Heap} {k : Nat}
  {f : Addr} {fd : FuncData} {ps : List Str} {sp : Sp} {cdv : Value}
theorem FunC.okG {x qual : Str} {st : Stmt} {N : List Str} (F : FunC K x qual st f fd cdv) (S : FnScope N ps (defScope st))
    (len : ∀ vs H Q E, sp vs H Q E → vs.length = ps.length)
    (hbody : ∀ (A : Around) (outer : List Env) (s : Shared) (H : Hp) (vs : List V) (Q : VK) (E : XK),
      (A.deeper (envOfC qual (defScope st) s.heap.objs.size f cdv)).guards = some [] →
      Room k (A.deeper (envOfC qual (defScope st) s.heap.objs.size f cdv)) → sp vs H Q E →
      ∃ t, PSs (cxOf CX0 P w K mg base N qual (defScope st) f cdv A outer s H E).nox (defBody st) t ∧
        t { nx := fun _ H' => Q .non H', rt := Q } (start N vs) H) :
    FnG P w K mg base CX0 (k + 1) f fd ps sp := by
  obtain ⟨oc, od, kV, doc, pm, an, ct, osl, rfl, lk, hcd⟩ := F.ex
  refine ⟨len, fun A outer s H args us vs Q E hg hr e0 hb r hsp => ?_⟩
  have hl := len _ _ _ _ hsp
  have KX : K.In s.heap := e0.mod.kin.keeps fun b o e => (e0.bs b o e).1
  have lim : s.heap.NoLimit := e0.mod.nolimit.keeps fun b o e => (e0.bs b o e).1
  have kinds : ∀ y ∈ ps.zip us, (defScope st).names.lookup y.1 = some .local ∨
      ((defScope st).names.lookup y.1 = some .cell ∧
        ((cellsFrom (s.heap.objs.size + 1) (defScope st).names []).lookup y.1).isSome = true) := by
    rintro ⟨n, v⟩ hy
    rcases S.par n (List.of_mem_zip hy).1 with q | q
    · exact .inl q
    · exact .inr ⟨q, PySem.W.cellsFrom_some _ _ _ (.inl q)⟩
  refine codeAny_call_function hr.depth (KX _ _ lk) rfl S.co S.gen rfl (PySem.W.codeRec_of KX hcd) (hb _ _ _ _ ?_)
  refine wpAny_newFunctionEnv_cells S.kind kinds fun env he s1 x => ?_
  subst he
  refine ⟨lim.keeps x.toInCall.keep, codeAny_func ?_⟩
  have hg' : (A.deeper (envOfC qual (defScope st) s.heap.objs.size f cdv)).guards = some [] := by
    first
      | exact hg
      | simpa [Around.deeper] using hg
  obtain ⟨t, ht0, hq⟩ := hbody A outer s H vs Q E hg' (hr.deeper _) hsp
  have ht := ht0.nox
  have I : Inv (cxOf CX0 P w K mg base N qual (defScope st) f cdv A outer s H E) [] (start N vs) H s1 :=
    inv_start S hr.hd e0 hl r x
  refine wpAny_mono (ht.run [] s1 (start N vs) H _ I hq) (fun fl s' hs => ?_) fun e s' hs => hs
  have fin : ∀ {σ' : St} {H' : Hp} {v : V} {u : Value},
      Inv (cxOf CX0 P w K mg base N qual (defScope st) f cdv A outer s H E) [] σ' H' s' → RelV v u → Q v H' →
      CE outer P w H s Q u s' := fun J rv q => ⟨_, _, J.os, J.bare, J.base, J.hok, rv, q⟩
  cases fl with
  | ret u =>
    obtain ⟨v, σ', H', J, rv, q⟩ := hs
    exact fin J rv q
  | next =>
    obtain ⟨σ', H', J, q⟩ := hs
    exact fin (v := V.non) (u := Value.none) J rfl q
  | brk =>
    obtain ⟨_, _, _, q⟩ := hs
    exact False.elim q
  | cont =>
    obtain ⟨_, _, _, q⟩ := hs
    exact False.elim q
/-- a def of the top that makes lambdas: its code object's table stands at T -/
def OwnC (K : PySem.W.Frag) (mg : Str → Option Value) (base : Heap) (x : Str) (st : Stmt) (ps : List Str) (T : Addr) : Prop :=
  ∃ f fd c, mg x = some (.ref f) ∧ FunC K x x st f fd (.ref c) ∧ Binds K fd ps [] ∧ LamX.TabB base mg c T
theorem OwnC.ok {x : Str} {st : Stmt} {N : List Str} {T : Addr} (O : OwnC K mg base x st ps T)
    (S : FnScope N ps (defScope st)) (len : ∀ vs H Q E, sp vs H Q E → vs.length = ps.length)
    (hbody : ∀ (f c : Addr) (A : Around) (outer : List Env) (s : Shared) (H : Hp) (vs : List V) (Q : VK)
      (E : XK), LamX.TabB base mg c T → (A.deeper (envOfC x (defScope st) s.heap.objs.size f (.ref c))).guards = some [] →
      Room k (A.deeper (envOfC x (defScope st) s.heap.objs.size f (.ref c))) → sp vs H Q E →
      ∃ t, PSs (cxOf CX0 P w K mg base N x (defScope st) f (.ref c) A outer s H E).nox (defBody st) t ∧
        t { nx := fun _ H' => Q .non H', rt := Q } (start N vs) H) :
    Kp P w K mg base (k + 1) x ps sp := by
  obtain ⟨f, fd, c, hm, F, b, TB⟩ := O
  exact ⟨f, fd, hm, F.kp, b, F.okG S len fun A outer s H vs Q E hg hr h => hbody f c A outer s H vs Q E TB hg hr h⟩
end
end L2
namespace L2
open PySem PySem.Spec PyProof.Rows
end L2
namespace L2
open PySem PySem.Spec PyProof.Rows
end L2
namespace L2
open PySem PySem.Spec PyProof.Rows
end L2
namespace L2
open PySem PySem.Spec PyProof.Rows
end L2
namespace L2
open PySem PySem.Spec PyProof.Rows
end L2
namespace L2
open PySem PySem.Spec PyProof.Rows
end L2
namespace L2
open PySem PySem.Spec PyProof.Rows
end L2
namespace L2
open PySem PySem.Spec PyProof.Rows
end L2
namespace L2
open PySem PySem.Spec PyProof.Rows
end L2
namespace L2
open PySem PySem.Spec PyProof.Rows
open PySem.AutoSeq1 (wpAny_loadPart')
end L2
namespace L2
open PySem PySem.Spec PyProof.Rows
end L2
namespace L2
open PySem PySem.Spec PyProof.Rows PySem.SeqAt PySem.MeetsSeq
end L2
namespace L2
open PySem PySem.Spec PyProof.Rows
theorem pss_no {X : Cx} {b : List Stmt} : PSs X b (fun _ _ _ => False) := ⟨fun _ _ _ _ _ _ h => h.elim⟩
end L2
namespace L2
open PySem PySem.Spec PyProof.Rows
/-- how keywords in the contrary order bind -/
def KwB (fd : FuncData) (ps ks : List Str) : Prop := ∀ (s : Shared) (ws : List Value), ws.length = ks.length → BindsTo s fd ⟨[], ks.zip ws⟩ (ps.zip ws.reverse)
/-- a def of the top, called by keywords too -/
def OwnK (K : PySem.W.Frag) (mg : Str → Option Value) (x : Str) (st : Stmt) (ps ks : List Str) : Prop :=
  ∃ f fd, mg x = some (.ref f) ∧ Fun K x x st f fd ∧ Binds K fd ps [] ∧ KwB fd ps ks
def KfV (P : Program) (w : World) (K : PySem.W.Frag) (mg : Str → Option Value) (base : Heap) (k : Nat) (x : Str) (ps ks : List Str) (sp : Sp) : Prop :=
  ∃ f fd, mg x = some (.ref f) ∧ PySem.W.keepIn K (.ref f) = true ∧ KwB fd ps ks ∧ FnOk P w K mg base CX0 k f fd ps sp
section
variable {P : Program} {w : World} {K : PySem.W.Frag} {mg : Str → Option Value} {base : Heap}
theorem OwnK.okF {x : Str} {st : Stmt} {N ps ks : List Str} {k : Nat} {sp : Sp} (O : OwnK K mg x st ps ks)
    (S : FnScope N ps (defScope st)) (len : ∀ vs H Q E, sp vs H Q E → vs.length = ps.length)
    (hbody : ∀ (f : Addr) (cdv : Value) (A : Around) (outer : List Env) (s : Shared) (H : Hp) (vs : List V) (Q : VK)
      (E : XK), True →
      Room k (A.deeper (envOfC x (defScope st) s.heap.objs.size f cdv)) → sp vs H Q E →
      ∃ t, PSs (cxOf CX0 P w K mg base N x (defScope st) f cdv A outer s H E).nox (defBody st) t ∧
        t { nx := fun _ H' => Q .non H', rt := Q } (start N vs) H) :
    Kf P w K mg base (k + 1) x ps sp ∧ KfV P w K mg base (k + 1) x ps ks sp := by
  obtain ⟨f, fd, hm, F, b, bk⟩ := O
  have G := F.ok (P := P) (w := w) (mg := mg) (base := base) S len fun cdv A outer s H vs Q E hr h => hbody f cdv A outer s H vs Q E trivial hr h
  exact ⟨⟨f, fd, hm, F.kp, b, G⟩, ⟨f, fd, hm, F.kp, bk, G⟩⟩
end
end L2
namespace L2
open PySem PySem.Spec PyProof.Rows
end L2
namespace L2
open PySem PySem.Spec PyProof.Rows HT
end L2
namespace L2
open PySem PySem.Spec PyProof.Rows
/-- each item of three lists in a new triple -/
def Itz3T (K : PySem.W.Frag) (a b c : Addr) : It :=
  ⟨fun i H => ∃ (xs ys zs : List V) (x y z : V), SqT K H a xs ∧ SqT K H b ys ∧ SqL K H c zs ∧ xs[i]? = some x ∧ ys[i]? = some y ∧ zs[i]? = some z,
    fun i H v H' => ∃ T x y z, v = .ref T ∧ H T = none ∧ H' = upd H T (.tup [x, y, z]) ∧ (∀ xs, SqT K H a xs → xs[i]? = some x) ∧
      (∀ ys, SqT K H b ys → ys[i]? = some y) ∧ (∀ zs, SqL K H c zs → zs[i]? = some z),
    fun i H => ∃ xs ys zs : List V, SqT K H a xs ∧ SqT K H b ys ∧ SqL K H c zs ∧ i ≤ xs.length ∧ i ≤ ys.length ∧ i ≤ zs.length ∧
      (i = xs.length ∨ i = ys.length ∨ i = zs.length)⟩
theorem turn_zip3T {P : Program} {w : World} {K : PySem.W.Frag} {elts : List Expr} {kk : Nat} {tpos : Pos} {a b c zz TI TO i1 i2 i3 : Addr} (D : Zip3L zz TI TO i1 i2 i3 a b c) :
    Turn P w K (.Tuple elts kk tpos) (Itz3T K a b c) [zz, TI, TO, i1, i2, i3] zz (fun i h => IsZip h zz TI TO .none ∧ IsTupOf3 h TI (.ref i1) (.ref i2) (.ref i3) ∧ (∃ x y z, IsTupOf3 h TO x y z) ∧ h.IsTupleIter i1 a i ∧ h.IsTupleIter i2 b i ∧ h.IsListIter i3 c i) where
  mem := by simp
  obj := fun i h st cc hc => by
    obtain ⟨hz, hTI, ⟨x, y, z, hTO⟩, ⟨o1, e1, _, d1⟩, ⟨o2, e2, _, d2⟩, ⟨o3, e3, _, d3⟩⟩ := st
    have e' : cc = zz ∨ cc = TI ∨ cc = TO ∨ cc = i1 ∨ cc = i2 ∨ cc = i3 := by simpa using hc
    rcases e' with q | q | q | q | q | q
    · rw [q]; exact ⟨_, hz, fun v q => nomatch q⟩
    · rw [q]; exact ⟨_, hTI, fun v q => nomatch q⟩
    · rw [q]; exact ⟨_, hTO, fun v q => nomatch q⟩
    · rw [q]; exact ⟨o1, e1, fun v q => by rw [d1] at q; cases q⟩
    · rw [q]; exact ⟨o2, e2, fun v q => by rw [d2] at q; cases q⟩
    · rw [q]; exact ⟨o3, e3, fun v q => by rw [d3] at q; cases q⟩
  keep := fun i h h' st k => by
    obtain ⟨hz, hTI, ⟨x, y, z, hTO⟩, h1, h2, h3⟩ := st
    exact ⟨k zz (by simp) _ hz, k TI (by simp) _ hTI, ⟨x, y, z, k TO (by simp) _ hTO⟩, h1.at fun o q => k i1 (by simp) o q, h2.at fun o q => k i2 (by simp) o q, h3.at fun o q => k i3 (by simp) o q⟩
  item := by
    intro X hP hw hK hc i pins s σ H E I hf st hg
    subst hP hw hK
    obtain ⟨hz, hTI, ⟨x0, y0, z0, hTO⟩, h1, h2, h3⟩ := st
    obtain ⟨xs, ys, zs, x, y, z, hqx, hqy, hqz, hx, hy, hzz⟩ := hg
    obtain ⟨its, rv, p, _⟩ := I.tuple hqx
    obtain ⟨its2, rv2, p2, _⟩ := I.tuple hqy
    obtain ⟨its3, rv3, p3, _⟩ := I.list hqz
    obtain ⟨u, hu, ru⟩ := rv.get hx
    obtain ⟨u2, hu2, ru2⟩ := rv2.get hy
    obtain ⟨u3, hu3, ru3⟩ := rv3.get hzz
    have lt : ∀ {l : List Value} {v : Value}, l[i]? = some v → i < l.toArray.size := fun {l v} e => by
      rw [List.size_toArray]
      rcases Nat.lt_or_ge i l.length with h | h
      · exact h
      · rw [List.getElem?_eq_none h] at e
        cases e
    have hzl : zz < s.heap.objs.size := Heap.lt_size hz
    have hh : X.A.handled = none := I.ok.hd hc
    refine wpAny_pyNext_zipD3_item D.S (Draws.tuple (by exact hh) i1 a D.ai its.toArray) (Draws.tuple (by exact hh) i2 b D.bi its2.toArray) (Draws.list (by exact hh) i3 c D.ci its3.toArray)
      hz hTI hTO ⟨h1, p⟩ ⟨h2, p2⟩ ⟨h3, p3.isList⟩ (lt hu) (lt hu2) (lt hu3) fun w1 w2 w3 h' tk y1 y2 y3 z' TO' h1' h2' h3' hT hsz hk => ?_
    obtain rfl : w1 = u := by
      have y1' : its[i]? = some w1 := by simpa using y1
      rw [hu] at y1'
      exact (Option.some.inj y1').symm
    obtain rfl : w2 = u2 := by
      have y1' : its2[i]? = some w2 := by simpa using y2
      rw [hu2] at y1'
      exact (Option.some.inj y1').symm
    obtain rfl : w3 = u3 := by
      have y1' : its3[i]? = some w3 := by simpa using y3
      rw [hu3] at y1'
      exact (Option.some.inj y1').symm
    refine ⟨_, rfl, wpAny_letOwnedTupleGo_zip (s := { s with heap := h', toks := tk }) z' fun h'' z'' sb => ?_⟩
    have hT2 : h''.get? s.heap.objs.size = some { cls := .type "tuple", data := .seq #[w1, w2, w3] } := (sb.2 _ (Nat.ne_of_gt hzl)).trans hT
    have new : ObjOk X.prog X.w (upd H s.heap.objs.size (.tup [x, y, z])) h'' s.heap.objs.size (.tup [x, y, z]) :=
      ⟨by show 3 ≤ sizeLine; decide, [w1, w2, w3], .cons ru (.cons ru2 (.cons ru3 .nil)), ⟨_, hT2, rfl, _, rfl⟩⟩
    have I1 : Inv X pins σ (upd H s.heap.objs.size (.tup [x, y, z])) { s with heap := h'', toks := tk } :=
      I.turnedNew (ch := [zz, TI, TO, i1, i2, i3]) (fun c o hb q => (sb.2 c (fun q' => hb (by simp [q']))).trans (hk c o (fun q' => hb (by simp [q'])) (fun q' => hb (by simp [q'])) (fun q' => hb (by simp [q'])) (fun q' => hb (by simp [q'])) (fun q' => hb (by simp [q'])) q)) hf (Nat.le_refl _) new
    refine ⟨.ref s.heap.objs.size, _, I1, rfl, ⟨_, x, y, z, rfl, I.hok.fresh (Nat.le_refl _), rfl, fun l hl => ?_, fun l hl => ?_, fun l hl => ?_⟩, ⟨z'', ?_, ⟨w1, w2, w3, ?_⟩, ?_, ?_, ?_⟩, fun cc hcm => ?_⟩
    · rw [I.tuple_inj hl hqx]
      exact hx
    · rw [I.tuple_inj hl hqy]
      exact hy
    · rw [I.list_inj hl hqz]
      exact hzz
    · exact (sb.2 _ D.S.TIz).trans (hk _ _ D.S.TIz D.S.TITO D.S.TIi1 D.S.TIi2 D.S.TIi3 hTI)
    · exact (sb.2 _ D.S.TOz).trans TO'
    · exact h1'.1.at fun o q => (sb.2 _ (Ne.symm D.S.zi1)).trans q
    · exact h2'.1.at fun o q => (sb.2 _ (Ne.symm D.S.zi2)).trans q
    · exact h3'.1.at fun o q => (sb.2 _ (Ne.symm D.S.zi3)).trans q
    · have hlt : cc < s.heap.objs.size := by
        have e' : cc = zz ∨ cc = TI ∨ cc = TO ∨ cc = i1 ∨ cc = i2 ∨ cc = i3 := by simpa using hcm
        rcases e' with q | q | q | q | q | q
        · rw [q]; exact hzl
        · rw [q]; exact Heap.lt_size hTI
        · rw [q]; exact Heap.lt_size hTO
        · rw [q]; obtain ⟨_, e1, _⟩ := h1; exact Heap.lt_size e1
        · rw [q]; obtain ⟨_, e2, _⟩ := h2; exact Heap.lt_size e2
        · rw [q]; obtain ⟨_, e3, _⟩ := h3; exact Heap.lt_size e3
      rw [upd_ne (Nat.ne_of_lt hlt)]
      exact (hf cc hcm).1
  done := by
    intro X hP hw hK hc i pins s σ H E I hf st hg
    subst hP hw hK
    obtain ⟨hz, hTI, ⟨x0, y0, z0, hTO⟩, h1, h2, h3⟩ := st
    obtain ⟨xs, ys, zs, hqx, hqy, hqz, l1, l2, l3, he⟩ := hg
    obtain ⟨its, rv, p, _⟩ := I.tuple hqx
    obtain ⟨its2, rv2, p2, _⟩ := I.tuple hqy
    obtain ⟨its3, rv3, p3, _⟩ := I.list hqz
    have e1 := rv.length
    have e2 := rv2.length
    have e3 := rv3.length
    have hh : X.A.handled = none := I.ok.hd hc
    exact wpAny_pyNext_zipD3_end D.S (Draws.tuple (by exact hh) i1 a D.ai its.toArray) (Draws.tuple (by exact hh) i2 b D.bi its2.toArray) (Draws.list (by exact hh) i3 c D.ci its3.toArray)
      hz hTI hTO ⟨h1, p⟩ ⟨h2, p2⟩ ⟨h3, p3.isList⟩ (by rw [List.size_toArray]; omega) (by rw [List.size_toArray]; omega) (by rw [List.size_toArray]; omega)
      (by rw [List.size_toArray, List.size_toArray, List.size_toArray]; omega) fun h' tk hk => ⟨rfl, I.turnedL (ch := [zz, TI, TO, i1, i2, i3]) (fun c o hb q =>
      hk c o (fun q' => hb (by simp [q'])) (fun q' => hb (by simp [q'])) (fun q' => hb (by simp [q'])) (fun q' => hb (by simp [q'])) (fun q' => hb (by simp [q'])) q) hf⟩
  self := fun A i s Q E st h => wpAny_pyIter_zip st.1 h
theorem walk_zip3T {K : PySem.W.Frag} {a b c : Addr} {xs ys zs : List V} {n : Nat} (h1 : n ≤ xs.length) (h2 : n = ys.length) (h3 : n ≤ zs.length) :
    Walk (Itz3T K a b c) n (fun H => SqT K H a xs ∧ SqT K H b ys ∧ SqL K H c zs) (YTri (fun i => xs[i]?) (fun i => ys[i]?) (fun i => zs[i]?)) := by
  refine ⟨fun i H hi q => ⟨xs, ys, zs, xs[i], ys[i], zs[i], q.1, q.2.1, q.2.2, by simp [show i < xs.length by omega], by simp [show i < ys.length by omega], by simp [show i < zs.length by omega]⟩,
    fun _ q => ⟨xs, ys, zs, q.1, q.2.1, q.2.2, h1, by omega, h3, .inr (.inl h2)⟩,
    fun i H x H' _ q ⟨T, x1, y1, z1, g1, g2, g3, g4, g5, g6⟩ => ⟨T, _, _, _, g1, g2, g3, g4 xs q.1, g5 ys q.2.1, g6 zs q.2.2⟩⟩
/-- a list or a tuple -/
def SqB (k : Bool) (K : PySem.W.Frag) (H : Hp) (a : Addr) (xs : List V) : Prop := match k with | true => SqL K H a xs | false => SqT K H a xs
def objB (k : Bool) (xs : List V) : HO := match k with | true => .lst xs | false => .tup xs
def ItzB (k : Bool) (K : PySem.W.Frag) (a b c : Addr) : It := match k with | true => Itz3 K a b c | false => Itz3T K a b c
section
variable {K : PySem.W.Frag} {k : Bool} {H H' : Hp} {a b c : Addr} {xs ys zs : List V}
theorem SqB.seq (h : SqB k K H a xs) : SqS K H a xs := by
  cases k
  · exact .inr h
  · exact .inl h
theorem SqS.toB (h : SqS K H a xs) : ∃ k, SqB k K H a xs := by
  rcases h with h | h
  · exact ⟨true, h⟩
  · exact ⟨false, h⟩
theorem SqB.of (h : H a = some (objB k xs)) : SqB k K H a xs := by
  cases k
  · exact SqT.of h
  · exact SqL.of h
theorem SqB.same (h : SqB k K H a xs) (s : Same H H') : SqB k K H' a xs := by
  cases k
  · rcases h with (h | ⟨o, h⟩) | h
    · exact .inl (.inl (s _ _ h))
    · exact .inl (.inr ⟨o, s _ _ h⟩)
    · exact .inr h
  · rcases h with (h | ⟨o, h⟩) | h
    · exact .inl (.inl (s _ _ h))
    · exact .inl (.inr ⟨o, s _ _ h⟩)
    · exact .inr h
theorem walk_zip3B {n : Nat} (h1 : n ≤ xs.length) (h2 : n = ys.length) (h3 : n ≤ zs.length) :
    Walk (ItzB k K a b c) n (fun H => SqB k K H a xs ∧ SqB k K H b ys ∧ SqL K H c zs) (YTri (fun i => xs[i]?) (fun i => ys[i]?) (fun i => zs[i]?)) := by
  cases k
  · exact walk_zip3T h1 h2 h3
  · exact walk_zip3 h1 h2 h3
end
def iZip3B (K : PySem.W.Frag) (ta : TA) : TI := fun σ H R => ta σ H fun vs H1 => ∃ k a b c xs ys zs, vs = [.ref a, .ref b, .ref c] ∧ SqB k K H1 a xs ∧ SqB k K H1 b ys ∧ SqL K H1 c zs ∧ R (ItzB k K a b c) H1
theorem pi_zip3B {X : Cx} {e e2 e3 : Expr} {ta : TA} {p pos tpos : Pos} {elts : List Expr} {kk : Nat} (hg : Gl X "zip") (hm : X.mg "zip" = none) (ha : PA X [e, e2, e3] ta)
    (hs : starEach [e, e2, e3] X.env = (false, eval e X.env) :: starEach [e2, e3] X.env := by rfl) (hpl : (backTo pos (starEach [e2, e3] X.env)).any (·.1) = false := by rfl) :
    PI X (.Tuple elts kk tpos) (.Call (.Name "zip" p) [e, e2, e3] [] pos) (iZip3B X.K ta) := by
  refine ⟨fun pins s σ H R I h => ?_⟩
  refine Call_ (ld_blt I hg hm PyProof.Rows.boot_zip (PyProof.Rows.callWith_type1 (thn (ha.run pos pins s σ H _ I h) fun us s1 ⟨vs, H1, I1, r1, q1⟩ => ?_) hs hpl))
  obtain ⟨k, a, b, c, xs, ys, zs, ex, hqx, hqy, hqz, q⟩ := q1
  cases k
  · subst ex
    obtain ⟨u1, u2, u3, rfl, r, r', r''⟩ : ∃ u1 u2 u3, us = [u1, u2, u3] ∧ RelV (.ref a) u1 ∧ RelV (.ref b) u2 ∧ RelV (.ref c) u3 := by
      rcases r1 with _ | ⟨r, _ | ⟨r', _ | ⟨r'', _ | _⟩⟩⟩
      exact ⟨_, _, _, rfl, r, r', r''⟩
    obtain rfl : u1 = Value.ref a := r
    obtain rfl : u2 = Value.ref b := r'
    obtain rfl : u3 = Value.ref c := r''
    have fresh6 : ∀ c, c ∈ [s1.heap.objs.size + 5, s1.heap.objs.size + 3, s1.heap.objs.size + 4, s1.heap.objs.size, s1.heap.objs.size + 1, s1.heap.objs.size + 2] → FpOk X pins H1 c := fun c hcm => by
      have e' : c = s1.heap.objs.size + 5 ∨ c = s1.heap.objs.size + 3 ∨ c = s1.heap.objs.size + 4 ∨ c = s1.heap.objs.size ∨ c = s1.heap.objs.size + 1 ∨ c = s1.heap.objs.size + 2 := by simpa using hcm
      have hle : s1.heap.objs.size ≤ c := by
        rcases e' with z | z | z | z | z | z
        · rw [z]; exact Nat.le_add_right _ _
        · rw [z]; exact Nat.le_add_right _ _
        · rw [z]; exact Nat.le_add_right _ _
        · rw [z]; exact Nat.le_refl _
        · rw [z]; exact Nat.le_add_right _ _
        · rw [z]; exact Nat.le_add_right _ _
      exact I1.fpOk hle (I1.hok.fresh hle)
    obtain ⟨its, rv, p1, _⟩ := I1.tuple hqx
    obtain ⟨its2, rv2, p2, _⟩ := I1.tuple hqy
    obtain ⟨its3, rv3, p3, _⟩ := I1.list hqz
    refine zip_begins3 (begins_tuple a its.toArray) (begins_tuple b its2.toArray) (begins_list c its3.toArray) p1 p2 p3.isList fun h' hz hTI hTO h1 h2 h3 hsz hk => wpAny_pyIter_zip hz ?_
    have I2 : Inv X pins σ H1 { s1 with heap := h' } := I1.kept (t' := s1.toks) hk
    have D := zip3L_of (n := s1.heap.objs.size) p1.lt p2.lt p3.lt
    exact ⟨s1.heap.objs.size + 5, [s1.heap.objs.size + 5, s1.heap.objs.size + 3, s1.heap.objs.size + 4, s1.heap.objs.size, s1.heap.objs.size + 1, s1.heap.objs.size + 2], _, _, H1, rfl, I2, turn_zip3T D,
      ⟨hz, hTI, ⟨_, _, _, hTO⟩, ⟨_, h1, rfl, rfl⟩, ⟨_, h2, rfl, rfl⟩, ⟨_, h3, rfl, rfl⟩⟩, fresh6, q⟩
  · subst ex
    obtain ⟨u1, u2, u3, rfl, r, r', r''⟩ : ∃ u1 u2 u3, us = [u1, u2, u3] ∧ RelV (.ref a) u1 ∧ RelV (.ref b) u2 ∧ RelV (.ref c) u3 := by
      rcases r1 with _ | ⟨r, _ | ⟨r', _ | ⟨r'', _ | _⟩⟩⟩
      exact ⟨_, _, _, rfl, r, r', r''⟩
    obtain rfl : u1 = Value.ref a := r
    obtain rfl : u2 = Value.ref b := r'
    obtain rfl : u3 = Value.ref c := r''
    have fresh6 : ∀ c, c ∈ [s1.heap.objs.size + 5, s1.heap.objs.size + 3, s1.heap.objs.size + 4, s1.heap.objs.size, s1.heap.objs.size + 1, s1.heap.objs.size + 2] → FpOk X pins H1 c := fun c hcm => by
      have e' : c = s1.heap.objs.size + 5 ∨ c = s1.heap.objs.size + 3 ∨ c = s1.heap.objs.size + 4 ∨ c = s1.heap.objs.size ∨ c = s1.heap.objs.size + 1 ∨ c = s1.heap.objs.size + 2 := by simpa using hcm
      have hle : s1.heap.objs.size ≤ c := by
        rcases e' with z | z | z | z | z | z
        · rw [z]; exact Nat.le_add_right _ _
        · rw [z]; exact Nat.le_add_right _ _
        · rw [z]; exact Nat.le_add_right _ _
        · rw [z]; exact Nat.le_refl _
        · rw [z]; exact Nat.le_add_right _ _
        · rw [z]; exact Nat.le_add_right _ _
      exact I1.fpOk hle (I1.hok.fresh hle)
    obtain ⟨its, rv, p1, _⟩ := I1.list hqx
    obtain ⟨its2, rv2, p2, _⟩ := I1.list hqy
    obtain ⟨its3, rv3, p3, _⟩ := I1.list hqz
    refine zip_begins3 (begins_list a its.toArray) (begins_list b its2.toArray) (begins_list c its3.toArray) p1.isList p2.isList p3.isList fun h' hz hTI hTO h1 h2 h3 hsz hk => wpAny_pyIter_zip hz ?_
    have I2 : Inv X pins σ H1 { s1 with heap := h' } := I1.kept (t' := s1.toks) hk
    have D := zip3L_of (n := s1.heap.objs.size) p1.lt p2.lt p3.lt
    exact ⟨s1.heap.objs.size + 5, [s1.heap.objs.size + 5, s1.heap.objs.size + 3, s1.heap.objs.size + 4, s1.heap.objs.size, s1.heap.objs.size + 1, s1.heap.objs.size + 2], _, _, H1, rfl, I2, turn_zip3 D,
      ⟨hz, hTI, ⟨_, _, _, hTO⟩, ⟨_, h1, rfl, rfl⟩, ⟨_, h2, rfl, rfl⟩, ⟨_, h3, rfl, rfl⟩⟩, fresh6, q⟩
/-- x[lo:hi] of a list or a tuple; the whole of a tuple is itself -/
def rSlQ (K : PySem.W.Frag) : V → Option Int → Option Int → Hp → VK → Prop := fun x lo hi H Q => ∃ k a xs, x = .ref a ∧ SqB k K H a xs ∧
  (∀ b H', Same H H' → SqB k K H' b (cutV xs lo hi) → Q (.ref b) H')
theorem cut_whole {lo hi : Option Int} {xs : List V} (h : HT.sIx xs.length 0 lo = 0 ∧ HT.sIx xs.length xs.length hi = xs.length) : cutV xs lo hi = xs := by
  show ((xs.drop (HT.sIx xs.length 0 lo)).take (HT.sIx xs.length xs.length hi - HT.sIx xs.length 0 lo)) = xs
  rw [h.1, h.2, List.drop_zero, List.take_of_length_le (by omega)]
theorem sl_seq {X : Cx} : SlR X (rSlQ X.K) := by
  intro pins s σ H x v vl vu lo hi sl Q I rx hs pl pu h
  obtain ⟨k, a, xs, rfl, hx, q⟩ := h
  cases k with
  | true => exact sl_list pins s σ H _ v vl vu lo hi sl Q I rx hs pl pu ⟨a, xs, rfl, hx, fun p hp => q p _ (Same.new hp) (SqB.of (k := true) upd_same)⟩
  | false => exact sl_tupA pins s σ H _ v vl vu lo hi sl Q I rx hs pl pu ⟨a, xs, rfl, hx, fun hw => q a H (fun _ _ h => h) (by rw [cut_whole hw]; exact hx), fun _ p hp => q p _ (Same.new hp) (SqB.of (k := false) upd_same)⟩
end L2
namespace KG
open PySem L2
section
variable {P : Program} {w : World} {K : PySem.W.Frag} {mg : Str → Option Value} {base : Heap}
theorem rix_seq {H : Hp} {a : Addr} {xs : List V} {i : Int} {v : V} {Q : VK} (hs : SqS K H a xs) (h : atI xs i = some v) (k : Q v H) :
    rIx K (.ref a) (.int i) H Q := by
  rcases hs with hs | hs
  · exact .inl ⟨_, _, _, _, rfl, rfl, hs, h, k⟩
  · exact .inr (.inl ⟨_, _, _, _, rfl, rfl, hs, h, k⟩)
def leadsB (v l : Option Int) (g : Int) : Bool := match v with
  | none => l.isNone
  | some i => decide (l = some (i + g))
/-- the values of a list, from each place on -/
def tv (t : List (Option Int)) (k : Nat) : Option Int := t.getD k none
def sv (s : List Int) (k : Nat) : Int := s.getD k 0
theorem at_tv {t : List (Option Int)} {i : Int} {k : Nat} (e : i = (k : Int)) (h : k < t.length) : atI (t.map vO) i = some (vO (tv t k)) := by
  subst e
  unfold atI ixN
  rw [List.length_map, if_pos (by omega), if_pos (by omega)]
  simp [tv, List.getElem?_eq_getElem h, List.getD_eq_getElem?_getD]
theorem at_sv {t : List Int} {i : Int} {k : Nat} (e : i = (k : Int)) (h : k < t.length) : atI (t.map V.int) i = some (.int (sv t k)) := by
  subst e
  unfold atI ixN
  rw [List.length_map, if_pos (by omega), if_pos (by omega)]
  simp [sv, List.getElem?_eq_getElem h, List.getD_eq_getElem?_getD]
/-- the k-th look of is_period -/
def PerAt (t : List (Option Int)) (s : List Int) (p : Nat) (parts : Int) (k : Nat) : Prop :=
  ((tv t k = none) ↔ (tv t (k + p) = none)) ∧ sv s k = sv s (k + p) ∧
    ∀ i j, tv t k = some i → tv t (k + p) = some j → (j - i) * parts = sv s k
def IsPer (t : List (Option Int)) (s : List Int) (p : Nat) : Prop :=
  ∀ k, k < t.length - p → PerAt t s p ((t.length / p : Nat) : Int) k
def spPer (K : PySem.W.Frag) : Sp := fun vs H Q _ => ∃ (a b : Addr) (t : List (Option Int)) (s : List Int) (p : Nat),
  vs = [.ref a, .ref b, .int p] ∧ SqS K H a (t.map vO) ∧ SqL K H b (s.map V.int) ∧ t.length = s.length ∧ 0 < p ∧
  p ≤ t.length ∧ t.length ≤ 100000 ∧ ∀ (r : Bool) (H' : Hp), Same H H' → (r = true ↔ IsPer t s p) → Q (.bl r) H'
theorem div_q {n p : Nat} {q r : Int} (e : (n : Int) = p * q + r) (r0 : 0 ≤ r) (r1 : r < p) : q = ((n / p : Nat) : Int) := by
  have h : (n : Int) / (p : Int) = q := by
    rw [e, Int.add_comm, Int.add_mul_ediv_left _ _ (by omega), Int.ediv_eq_zero_of_lt r0 r1, Int.zero_add]
  rw [← h]
  rfl
theorem drop_take {s : List Int} {p : Nat} (hp : p ≤ s.length) : s.drop p = s.take (s.length - p) ↔ ∀ k, k < s.length - p → sv s k = sv s (k + p) := by
  constructor
  · intro h k hk
    have h1 : (s.drop p)[k]? = (s.take (s.length - p))[k]? := by rw [h]
    rw [List.getElem?_drop, List.getElem?_take, if_pos hk] at h1
    unfold sv
    rw [List.getD_eq_getElem?_getD, List.getD_eq_getElem?_getD, ← h1, Nat.add_comm]
  · intro h
    apply List.ext_getElem?
    intro k
    rw [List.getElem?_drop, List.getElem?_take]
    by_cases hk : k < s.length - p
    · rw [if_pos hk]
      have := h k hk
      unfold sv at this
      rw [List.getD_eq_getElem?_getD, List.getD_eq_getElem?_getD, Nat.add_comm, List.getElem?_eq_getElem (show k < s.length by omega), List.getElem?_eq_getElem (show p + k < s.length by omega)] at this
      rw [List.getElem?_eq_getElem (show p + k < s.length by omega), List.getElem?_eq_getElem (show k < s.length by omega)]
      simp only [Option.getD_some] at this
      rw [this]
    · rw [if_neg hk, List.getElem?_eq_none (by omega)]
theorem eqv_ints (ns ms : List Int) : PyData.eqv (.list (ns.map PyData.int)) (.list (ms.map PyData.int)) = decide (ns = ms) := by
  unfold PyData.eqv
  exact PySem.W.ked_eqvAll ns ms
theorem sqL_same {H H' : Hp} {a : Addr} {xs : List V} (h : SqL K H a xs) (s : Same H H') : SqL K H' a xs := by
  rcases h with (h | ⟨o, h⟩) | h
  · exact .inl (.inl (s _ _ h))
  · exact .inl (.inr ⟨o, s _ _ h⟩)
  · exact .inr h
theorem tv_drop (t : List (Option Int)) (b i : Nat) : tv (t.drop b) i = tv t (b + i) := by
  simp [tv, List.getD_eq_getElem?_getD]
theorem tv_at {t : List (Option Int)} {i : Nat} {x : V} (h : (t.map vO)[i]? = some x) : x = vO (tv t i) := by
  obtain ⟨o, ho, rfl⟩ := opt_at h
  unfold tv
  rw [List.getD_eq_getElem?_getD, ho]
  rfl
theorem sv_at {s : List Int} {i : Nat} {x : V} (h : (s.map V.int)[i]? = some x) : x = .int (sv s i) := by
  rw [List.getElem?_map] at h
  cases e : s[i]? with
  | none => rw [e] at h; cases h
  | some n =>
    rw [e] at h
    unfold sv
    rw [List.getD_eq_getElem?_getD, e]
    exact (Option.some.inj h).symm
theorem kp_is_period (T : Txt K mg) : Kf P w K mg base 1 "is_period" ["tail", "climbs", "period"] (spPer K) := by
  refine T.d_isperiod.okF sc_isperiod (fun vs H Q E h => ?_) (fun f cdv A outer s H vs Q E hA hr h => ?_)
  · obtain ⟨a, b, t, sg, p, rfl, _⟩ := h
    rfl
  · obtain ⟨a, b, t, sg, p, rfl, ha, hb, hl, p0, p1, big, k⟩ := h
    obtain ⟨kd, ha⟩ := ha.toB
    refine ⟨_, (pss_cons (ps_if (pt_cmpR (op_neD hr.units) (pe_slice (sl_list : SlR _ (rSlL K)) (pv 1) (po_some (pv 2)) po_none) (pe_slice (sl_list : SlR _ (rSlL K)) (pv 1) po_none (po_some (pe_op op_sub (pe_callB call_len (by rfl) (T.nb _ (by decide)) PySem.boot_len (pa_cons (pv 1) pa_nil)) (pv 2)))) (nomark _))
 (pss_one (ps_ret (pe_bl))) pss_nil)
 (pss_cons (ps_set (i := 3) sc_isperiod.nd rfl (Or.inl rfl) (pe_op op_divW (pe_callB call_len (by rfl) (T.nb _ (by decide)) PySem.boot_len (pa_cons (pv 0) pa_nil)) (pv 2)))
 (pss_cons (ps_for PassesOwn.never rfl (pi_zip3B (by rfl) (T.nb _ (by decide)) (pa_cons (pv 0) (pa_cons (pe_slice (sl_seq : SlR _ (rSlQ K)) (pv 0) (po_some (pv 2)) po_none) (pa_cons (pv 1) pa_nil)))) (pg_tup rfl (pgs_cons (pg_name (i := 4) sc_isperiod.nd rfl (Or.inl rfl)) (pgs_cons (pg_name (i := 5) sc_isperiod.nd rfl (Or.inl rfl)) (pgs_cons (pg_name (i := 6) sc_isperiod.nd rfl (Or.inl rfl)) pgs_nil))))
 (pss_one (ps_if (PW.pt (pw_or (pt_cmpR op_isN (pv 4) (pe_non) (nomark _)) (pw_or1 (pt_cmpR op_isN (pv 5) (pe_non) (nomark _)))))
 (pss_one (ps_if (PW.pt (pw_or (pt_cmpR op_notN (pv 4) (pe_non) (nomark _)) (pw_or1 (pt_cmpR op_notN (pv 5) (pe_non) (nomark _)))))
 (pss_one (ps_ret (pe_bl))) pss_nil)) (pss_one (ps_if (pt_cmpR op_ne (pe_op op_mulW' (pe_op op_sub (pv 5) (pv 4)) (pv 3)) (pv 6) (nomark _))
 (pss_one (ps_ret (pe_bl))) pss_nil)))))
 (pss_one (ps_ret (pe_bl)))))), ?_⟩
    have c1 : cutV (sg.map V.int) (some (p : Int)) none = (sg.drop p).map V.int := by rw [cut_from, List.map_drop]
    have c2 : cutV (sg.map V.int) none (some (((sg.map V.int).length : Int) - (p : Int))) = (sg.take (sg.length - p)).map V.int := by
      rw [List.length_map, show ((sg.length : Int) - (p : Int)) = ((sg.length - p : Nat) : Int) by omega, cut_to, List.map_take]
    have c3 : cutV (t.map vO) (some (p : Int)) none = (t.drop p).map vO := by rw [cut_from, List.map_drop]
    refine ⟨_, rfl, _, rfl, _, rfl, _, _, rfl, hb, fun q1 hq1 => ?_⟩
    rw [c1]
    have s1 : Same H (upd H q1 (.lst ((sg.drop p).map V.int))) := Same.new hq1
    have g1 : upd H q1 (.lst ((sg.drop p).map V.int)) q1 = some (.lst ((sg.drop p).map V.int)) := upd_same
    generalize upd H q1 (.lst ((sg.drop p).map V.int)) = H1 at s1 g1 ⊢
    have hb1 := sqL_same hb s1
    refine ⟨_, rfl, _, rfl, _, _, rfl, len_sq hb1, _, rfl, _, _, rfl, rfl, _, rfl, _, _, rfl, hb1, fun q2 hq2 => ?_⟩
    rw [c2]
    have s2 : Same H1 (upd H1 q2 (.lst ((sg.take (sg.length - p)).map V.int))) := Same.new hq2
    have g2 : upd H1 q2 (.lst ((sg.take (sg.length - p)).map V.int)) q2 = some (.lst ((sg.take (sg.length - p)).map V.int)) := upd_same
    generalize upd H1 q2 (.lst ((sg.take (sg.length - p)).map V.int)) = H2 at s2 g2 ⊢
    have g1 := s2 _ _ g1
    have s2 := s1.trans s2
    refine ⟨_, _, .lst (SqL.of g1) (dp_ints _), .lst (SqL.of g2) (dp_ints _), shaped_ints _, shaped_ints _, _, rfl, ?_⟩
    rw [eqv_ints]
    refine ite2 (fun c => ?_) (fun c => ?_)
    · have ne : ¬ sg.drop p = sg.take (sg.length - p) := by
        intro z
        rw [decide_eq_true z] at c
        cases c
      exact k false _ s2 ⟨fun z => (nomatch z), fun z => absurd ((drop_take (by omega)).mpr fun k' hk' => (z k' (by omega)).2.1) ne⟩
    have eqd : sg.drop p = sg.take (sg.length - p) := by
      by_cases z : sg.drop p = sg.take (sg.length - p)
      · exact z
      · exact absurd (by rw [decide_eq_false z]; rfl) c
    have per := (drop_take (by omega)).mp eqd
    have ha2 := SqB.same ha s2
    have hb2 := sqL_same hb s2
    clear c g1 g2
    refine ⟨_, rfl, _, _, rfl, ha2.seq.len, _, rfl, _, _, rfl, rfl, by omega, by omega, fun q r e r0 r1 => ?_⟩
    rw [List.length_map] at e
    have eq := div_q e r0 r1
    subst eq
    refine ⟨_, rfl, _, rfl, _, rfl, _, rfl, kd, a, _, rfl, ha2, fun q3 H3 s3 g3 => ?_⟩
    rw [c3] at g3
    have ha3 := SqB.same ha2 s3
    have hb3 := sqL_same hb2 s3
    have s3 := s2.trans s3
    refine ⟨_, rfl, kd, a, q3, b, _, _, _, rfl, ha3, g3, hb3, ?_⟩
    refine for_it (walk_zip3B (k := kd) (K := K) (a := a) (b := q3) (c := b) (n := t.length - p) (xs := t.map vO) (ys := (t.drop p).map vO) (zs := sg.map V.int) (by rw [List.length_map]; omega) (by rw [List.length_map, List.length_drop]) (by rw [List.length_map]; omega))
      (fun i σ H' => ∃ v4 v5 v6 : Option V, Same H3 H' ∧ (∀ k, k < i → PerAt t sg p ((t.length / p : Nat) : Int) k) ∧
      σ = [some (.ref a), some (.ref b), some (.int p), some (.int ((t.length / p : Nat) : Int)), v4, v5, v6]) ⟨_, _, _, fun _ _ h => h, fun k hk => absurd hk (Nat.not_lt_zero k), rfl⟩
      (fun i σ H' _ ⟨_, _, _, sm, _, _⟩ => ⟨SqB.same ha3 sm, SqB.same g3 sm, sqL_same hb3 sm⟩) ?_ ?_
    · rintro i xv σ H' H4 hi ⟨v4, v5, v6, sm, pre, rfl⟩ ⟨T1, x, y, z, rfl, hT, rfl, h1, h2, h3⟩
      obtain rfl := tv_at h1
      obtain rfl := tv_at h2
      obtain rfl := sv_at h3
      rw [tv_drop, Nat.add_comm p i]
      have sm4 : Same H3 (upd H' T1 (.tup [vO (tv t i), vO (tv t (i + p)), .int (sv sg i)])) := sm.trans (Same.new hT)
      have s4 := s3.trans sm4
      have no : ¬ PerAt t sg p ((t.length / p : Nat) : Int) i → Q (.bl false) (upd H' T1 (.tup [vO (tv t i), vO (tv t (i + p)), .int (sv sg i)])) :=
        fun h => k false _ s4 ⟨fun z => (nomatch z), fun z => absurd (z i hi) h⟩
      have hsv : sv sg i = sv sg (i + p) := per i (by omega)
      refine ⟨T1, _, rfl, SqT.of upd_same, rfl, _, _, rfl, _, _, rfl, _, _, rfl, rfl, ?_⟩
      generalize upd H' T1 (.tup [vO (tv t i), vO (tv t (i + p)), .int (sv sg i)]) = H5 at sm4 s4 no ⊢
      have nxt : PerAt t sg p ((t.length / p : Nat) : Int) i → ∀ k, k < i + 1 → PerAt t sg p ((t.length / p : Nat) : Int) k := fun h k hk => by
        rcases Nat.lt_succ_iff_lt_or_eq.mp hk with z | z
        · exact pre k z
        · rw [z]
          exact h
      cases e1 : tv t i with
      | none =>
        cases e2 : tv t (i + p) with
        | none =>
          refine ⟨_, rfl, rfl, _, rfl, iteT ?_⟩
          refine ⟨_, rfl, rfl, _, rfl, iteF ?_⟩
          refine ⟨_, rfl, rfl, _, rfl, iteF ?_⟩
          exact ⟨_, _, _, sm4, nxt ⟨⟨fun _ => e2, fun _ => e1⟩, hsv, fun i' j' z => by rw [e1] at z; cases z⟩, rfl⟩
        | some y =>
          refine ⟨_, rfl, rfl, _, rfl, iteT ?_⟩
          refine ⟨_, rfl, rfl, _, rfl, iteF ?_⟩
          refine ⟨_, rfl, rfl, _, rfl, iteT ?_⟩
          exact no fun h => by
            have := h.1.mp e1
            rw [e2] at this
            cases this
      | some x =>
        cases e2 : tv t (i + p) with
        | none =>
          refine ⟨_, rfl, rfl, _, rfl, iteF ?_⟩
          refine ⟨_, rfl, rfl, _, rfl, iteT ?_⟩
          refine ⟨_, rfl, rfl, _, rfl, iteT ?_⟩
          exact no fun h => by
            have := h.1.mpr e2
            rw [e1] at this
            cases this
        | some y =>
          refine ⟨_, rfl, rfl, _, rfl, iteF ?_⟩
          refine ⟨_, rfl, rfl, _, rfl, iteF ?_⟩
          refine ⟨_, rfl, _, rfl, _, _, rfl, rfl, _, rfl, _, _, rfl, rfl, .inr ?_, fun z hz => ?_⟩
          · have : t.length / p ≤ t.length := Nat.div_le_self _ _
            exact ⟨Int.lt_of_lt_of_le (by decide) (Int.natCast_nonneg _),
              Int.lt_of_le_of_lt (Int.ofNat_le.mpr (Nat.le_trans this big)) (by decide)⟩
          refine ⟨_, rfl, rfl, _, rfl, ?_⟩
          subst hz
          refine ite2 (fun c => no fun h => ?_) (fun c3 => ?_)
          · have h3 := h.2.2 x y e1 e2
            rw [h3] at c
            simp at c
          · refine ⟨_, _, _, sm4, nxt ⟨⟨fun z => ?_, fun z => ?_⟩, hsv, fun i' j' a b => ?_⟩, rfl⟩
            · rw [e1] at z
              cases z
            · rw [e2] at z
              cases z
            · rw [e1] at a
              rw [e2] at b
              cases a
              cases b
              by_cases z : (y - x) * ((t.length / p : Nat) : Int) = sv sg i
              · exact z
              · exact absurd (by rw [decide_eq_false (fun y => z (V.int.inj y))]; rfl) c3
    · rintro σ H' ⟨v4, v5, v6, sm, pre, rfl⟩
      exact k true _ (s3.trans sm) ⟨fun _ => pre, fun _ => rfl⟩
/-- the least period of such values -/
def LeastP (t : List (Option Int)) (s : List Int) (p : Nat) : Prop := 1 ≤ p ∧ p ≤ t.length ∧ p ∣ t.length ∧
  (p = t.length ∨ IsPer t s p) ∧ ∀ q, 1 ≤ q → q < p → q ∣ t.length → ¬ IsPer t s q
def spLeast (K : PySem.W.Frag) : Sp := fun vs H Q _ => ∃ (a b : Addr) (t : List (Option Int)) (s : List Int),
  vs = [.ref a, .ref b] ∧ SqS K H a (t.map vO) ∧ SqL K H b (s.map V.int) ∧ t.length = s.length ∧ 0 < t.length ∧
  t.length ≤ 100000 ∧ ∀ (p : Nat) (H' : Hp), Same H H' → LeastP t s p → Q (.int p) H'
theorem kp_least_period (T : Txt K mg) : Kf P w K mg base 2 "least_period" ["tail", "climbs"] (spLeast K) := by
  refine T.d_leastperiod.okF sc_leastperiod (fun vs H Q E h => ?_) (fun f cdv A outer s H vs Q E hA hr h => ?_)
  · obtain ⟨a, b, t, sg, rfl, _⟩ := h
    rfl
  · obtain ⟨a, b, t, sg, rfl, ha, hb, hl, l0, big, k⟩ := h
    refine ⟨_, (pss_cons (ps_set (i := 2) sc_leastperiod.nd rfl (Or.inl rfl) (pe_callB call_len (by rfl) (T.nb _ (by decide)) PySem.boot_len (pa_cons (pv 0) pa_nil)))
 (pss_cons (ps_for PassesOwn.never rfl (pi_range2 (by rfl) (T.nb _ (by decide)) (pa_cons (pe_int) (pa_cons (pv 2) pa_nil))) (pg_name (i := 3) sc_leastperiod.nd rfl (Or.inl rfl))
 (pss_one (ps_if (PW.pt (pw_and (pt_cmpR op_eq (pe_op op_modN (pv 2) (pv 3)) (pe_int) (nomark _)) (pw_and1 (pt_val (pe_kf (kp_is_period T) hA hr (by rfl) (pa_cons (pv 0) (pa_cons (pv 1) (pa_cons (pv 3) pa_nil))))))))
 (pss_one (ps_ret (pv 3))) pss_nil)))
 (pss_one (ps_ret (pv 2))))), ?_⟩
    refine ⟨_, rfl, _, _, rfl, ha.len, _, rfl, 1, _, rfl, ?_, ?_⟩
    · rw [List.length_map]
      refine ⟨by decide, by decide, by omega, by omega⟩
    have en : (((t.map vO).length : Int) - 1).toNat = t.length - 1 := by
      rw [List.length_map]
      omega
    rw [en]
    refine for_range (lo := 1) (n := t.length - 1) (fun i σ H' => ∃ v3 : Option V, Same H H' ∧ (∀ q, 1 ≤ q → q < i + 1 → q ∣ t.length → ¬ IsPer t sg q) ∧
      σ = [some (.ref a), some (.ref b), some (.int ((t.map vO).length : Int)), v3]) ⟨_, fun _ _ h => h, fun q h1 h2 => by omega, rfl⟩ ?_ ?_
    · rintro i σ H' hi ⟨v3, sm, pre, rfl⟩
      refine ⟨_, rfl, _, rfl, _, _, rfl, rfl, by omega, rfl, _, rfl, ?_⟩
      have e1 : ((1 : Int) + (i : Int)) = ((i + 1 : Nat) : Int) := by omega
      have em : (((t.map vO).length : Int)).fmod (1 + (i : Int)) = ((t.length % (i + 1) : Nat) : Int) := by
        rw [List.length_map, e1, Int.fmod_eq_emod_of_nonneg _ (by omega)]
        rfl
      refine ite2 (fun c => ?_) (fun c => iteF ?_)
      · have hd : i + 1 ∣ t.length := by
          have this : V.int ((((t.map vO).length : Int)).fmod (1 + (i : Int))) = V.int 0 := of_decide_eq_true c
          rw [em] at this
          have := V.int.inj this
          exact Nat.dvd_of_mod_eq_zero (by omega)
        refine ⟨_, rfl, _, rfl, _, rfl, a, b, t, sg, i + 1, ?_, ha.new sm, sqL_same hb sm, hl, by omega, by omega, big, fun r H2 s2 hr => ⟨_, rfl, ?_⟩⟩
        · rw [← e1]
          rfl
        · cases r with
          | true =>
            refine iteT ?_
            refine ⟨_, rfl, ?_⟩
            have := k (i + 1) H2 (sm.trans s2) ⟨by omega, by omega, hd, .inr (hr.mp rfl), fun q h1 h2 => pre q h1 h2⟩
            rw [← e1] at this
            exact this
          | false =>
            refine iteF ?_
            refine ⟨_, sm.trans s2, fun q h1 h2 h3 => ?_, rfl⟩
            rcases Nat.lt_succ_iff_lt_or_eq.mp h2 with z | z
            · exact pre q h1 z h3
            · subst z
              exact fun y => nomatch hr.mpr y
      · refine ⟨_, sm, fun q h1 h2 h3 => ?_, rfl⟩
        rcases Nat.lt_succ_iff_lt_or_eq.mp h2 with z | z
        · exact pre q h1 z h3
        · subst z
          refine absurd (decide_eq_true ?_) c
          show V.int ((((t.map vO).length : Int)).fmod (1 + (i : Int))) = V.int 0
          rw [em, Nat.mod_eq_zero_of_dvd h3]
          rfl
    · rintro σ H' ⟨v3, sm, pre, rfl⟩
      refine ⟨_, rfl, ?_⟩
      have := k t.length H' sm ⟨by omega, Nat.le_refl _, Nat.dvd_refl _, .inl rfl, fun q h1 h2 => pre q h1 (by omega)⟩
      rw [← List.length_map (f := vO)] at this
      exact this
/-- the begin of the normal form, found from behind -/
def spBack (K : PySem.W.Frag) : Sp := fun vs H Q _ => ∃ (a b : Addr) (t : List (Option Int)) (g : List Int) (b0 : Nat),
  vs = [.ref a, .int b0, .ref b] ∧ SqS K H a (t.map vO) ∧ SqL K H b (g.map V.int) ∧ 1 ≤ g.length ∧ b0 + g.length ≤ t.length ∧ t.length ≤ 100000 ∧
  ∀ n : Nat, n ≤ b0 → (∀ m, n ≤ m → m < b0 → leadsB (tv t m) (tv t (m + g.length)) (sv g (m % g.length)) = true) →
    (n = 0 ∨ leadsB (tv t (n - 1)) (tv t (n - 1 + g.length)) (sv g ((n - 1) % g.length)) = false) → Q (.int n) H
theorem kp_begin_back (T : Txt K mg) : Kf P w K mg base 1 "begin_back" ["told", "begin", "gains"] (spBack K) := by
  refine T.d_beginback.okF sc_beginback (fun vs H Q E h => ?_) (fun f cdv A outer s H vs Q E hA hr h => ?_)
  · obtain ⟨a, b, t, g, b0, rfl, _⟩ := h
    rfl
  · obtain ⟨a, b, t, g, b0, rfl, ha, hb, g1, gt, big, k⟩ := h
    refine ⟨_, (pss_cons (ps_set (i := 3) sc_beginback.nd rfl (Or.inl rfl) (pe_callB call_len (by rfl) (T.nb _ (by decide)) PySem.boot_len (pa_cons (pv 2) pa_nil)))
 (pss_cons (ps_while PassesOwn.never (pt_cmpR op_gt (pv 1) (pe_int) (nomark _))
 (pss_cons (ps_par (i := 4) (j := 5) (by rfl) sc_beginback.nd rfl rfl (by decide) rfl rfl (pa_cons (pe_ix (ix_seq : IxR _ (rIx K)) (pv 0) (pe_op op_sub (pv 1) (pe_int)) (fun _ _ => rfl)) (pa_cons (pe_ix (ix_seq : IxR _ (rIx K)) (pv 0) (pe_op op_add (pe_op op_sub (pv 1) (pe_int)) (pv 3)) (fun _ _ => rfl)) pa_nil)) (by rfl))
 (pss_cons (ps_if (PW.pt (pw_or (pt_cmpR op_isN (pv 4) (pe_non) (nomark _)) (pw_or1 (pt_cmpR op_isN (pv 5) (pe_non) (nomark _)))))
 (pss_one (ps_if (PW.pt (pw_or (pt_cmpR op_notN (pv 4) (pe_non) (nomark _)) (pw_or1 (pt_cmpR op_notN (pv 5) (pe_non) (nomark _)))))
 (pss_one (ps_ret (pv 1))) pss_nil)) (pss_one (ps_if (pt_cmpR op_ne (pe_op op_add (pv 4) (pe_ix (ix_list : IxR _ (rIxL K)) (pv 2) (pe_op op_modN (pe_op op_sub (pv 1) (pe_int)) (pv 3)) (fun _ _ => rfl))) (pv 5) (nomark _))
 (pss_one (ps_ret (pv 1))) pss_nil)))
 (pss_one (ps_set (i := 1) sc_beginback.nd rfl (Or.inl rfl) (pe_op op_sub (pv 1) (pe_int)))))))
 (pss_one (ps_ret (pv 1))))), ?_⟩
    refine ⟨_, rfl, _, _, rfl, len_sq hb, ?_⟩
    rw [List.length_map]
    dsimp only [tSeq]
    refine while_by (fun σ H' => ∃ (n : Nat) (v4 v5 : Option V), H' = H ∧ n ≤ b0 ∧
        (∀ m, n ≤ m → m < b0 → leadsB (tv t m) (tv t (m + g.length)) (sv g (m % g.length)) = true) ∧
        σ = [some (.ref a), some (.int n), some (.ref b), some (.int g.length), v4, v5])
      (fun σ _ => match σ[1]? with | some (some (V.int i)) => i.toNat | _ => 0) ⟨b0, _, _, rfl, Nat.le_refl _, fun m h1 h2 => by omega, rfl⟩ ?_ ?_
    · rintro σ H' ⟨n, v4, v5, rfl, nb, pre, rfl⟩
      refine ⟨_, rfl, _, _, rfl, rfl, _, rfl, ?_⟩
      refine ite2 (fun c => ?_) (fun c => ?_)
      · have n0 : 0 < n := by
          have : (0 : Int) < (n : Int) := of_decide_eq_true c
          omega
        have e1 : ((n : Int) - 1) = ((n - 1 : Nat) : Int) := by omega
        have e2 : ((n : Int) - 1 + (g.length : Int)) = ((n - 1 + g.length : Nat) : Int) := by omega
        have e3 : (((n : Int) - 1)).fmod (g.length : Int) = (((n - 1) % g.length : Nat) : Int) := by
          rw [e1, Int.fmod_eq_emod_of_nonneg _ (by omega)]
          rfl
        have l2 : (n - 1) % g.length < g.length := Nat.mod_lt _ (by omega)
        refine ⟨_, rfl, _, rfl, _, _, rfl, rfl, rix_seq ha (at_tv e1 (by omega)) ?_⟩
        refine ⟨_, rfl, _, rfl, _, _, rfl, rfl, _, rfl, _, _, rfl, rfl, rix_seq ha (at_tv e2 (by omega)) ?_⟩
        refine ⟨_, _, rfl, ?_⟩
        have stp : leadsB (tv t (n - 1)) (tv t (n - 1 + g.length)) (sv g ((n - 1) % g.length)) = true →
            ∀ m, n - 1 ≤ m → m < b0 → leadsB (tv t m) (tv t (m + g.length)) (sv g (m % g.length)) = true := fun h m h1 h2 => by
          rcases Nat.lt_or_ge m n with z | z
          · have : m = n - 1 := by omega
            rw [this]
            exact h
          · exact pre m z h2
        have ret : leadsB (tv t (n - 1)) (tv t (n - 1 + g.length)) (sv g ((n - 1) % g.length)) = false → Q (.int n) H' := fun h => k n nb pre (.inr h)
        cases q1 : tv t (n - 1) with
        | none =>
          cases q2 : tv t (n - 1 + g.length) with
          | none =>
            refine ⟨_, rfl, rfl, _, rfl, iteT ?_⟩
            refine ⟨_, rfl, rfl, _, rfl, iteF ?_⟩
            refine ⟨_, rfl, rfl, _, rfl, iteF ?_⟩
            refine ⟨_, rfl, _, _, rfl, rfl, ⟨n - 1, some .non, some .non, rfl, by omega, stp (by rw [q1, q2]; rfl), ?_⟩, ?_⟩
            · rw [← e1]
              rfl
            · show ((n : Int) - 1).toNat < ((n : Int)).toNat
              omega
          | some y =>
            refine ⟨_, rfl, rfl, _, rfl, iteT ?_⟩
            refine ⟨_, rfl, rfl, _, rfl, iteF ?_⟩
            refine ⟨_, rfl, rfl, _, rfl, iteT ?_⟩
            exact ⟨_, rfl, ret (by rw [q1, q2]; rfl)⟩
        | some x =>
          cases q2 : tv t (n - 1 + g.length) with
          | none =>
            refine ⟨_, rfl, rfl, _, rfl, iteF ?_⟩
            refine ⟨_, rfl, rfl, _, rfl, iteT ?_⟩
            refine ⟨_, rfl, rfl, _, rfl, iteT ?_⟩
            exact ⟨_, rfl, ret (by rw [q1, q2]; rfl)⟩
          | some y =>
            refine ⟨_, rfl, rfl, _, rfl, iteF ?_⟩
            refine ⟨_, rfl, rfl, _, rfl, iteF ?_⟩
            refine ⟨_, rfl, _, rfl, _, rfl, _, _, rfl, rfl, _, rfl, _, _, rfl, rfl, by omega, _, _, _, _, rfl, rfl, hb, at_sv e3 l2, ?_⟩
            refine ⟨_, _, rfl, rfl, _, rfl, rfl, _, rfl, ?_⟩
            refine ite2 (fun c1 => ?_) (fun c1 => ?_)
            · refine ⟨_, rfl, ret ?_⟩
              rw [q1, q2]
              show decide (some y = some (x + _)) = false
              refine decide_eq_false fun z => ?_
              have z := Option.some.inj z
              replace c1 : (!decide (V.int (x + sv g ((n - 1) % g.length)) = V.int y)) = true := c1
              rw [← z, decide_eq_true rfl] at c1
              cases c1
            · refine ⟨_, rfl, _, _, rfl, rfl, ⟨n - 1, some (.int x), some (.int y), rfl, by omega, stp ?_, ?_⟩, ?_⟩
              · rw [q1, q2]
                replace c1 : ¬ (!decide (V.int (x + sv g ((n - 1) % g.length)) = V.int y)) = true := c1
                show decide (some y = some (x + _)) = true
                refine decide_eq_true ?_
                by_cases z : x + sv g ((n - 1) % g.length) = y
                · rw [z]
                · exact absurd (by rw [decide_eq_false (fun y => z (V.int.inj y))]; rfl) c1
              · rw [← e1]
                rfl
              · show ((n : Int) - 1).toNat < ((n : Int)).toNat
                omega
      · have n0 : n = 0 := by
          rcases Nat.eq_zero_or_pos n with z | z
          · exact z
          · exact absurd (decide_eq_true (show (0 : Int) < (n : Int) by omega)) c
        exact ⟨_, rfl, k n nb pre (.inl n0)⟩
    · intro σ H Q Q' h c
      obtain ⟨v3, e3, i, j, ei, ej, c⟩ := c
      refine ⟨v3, e3, i, j, ei, ej, ?_⟩
      obtain ⟨b, eb, c⟩ := c
      exact ⟨b, eb, h _ _ c⟩
end
end KG
namespace KG
open PySem L2
section
variable {P : Program} {w : World} {K : PySem.W.Frag} {mg : Str → Option Value} {base : Heap}
/-- what the rest at place k of the tail climbs -/
def climb (T : List (Option Int)) (G : List Int) (k : Nat) : Int :=
  match tv T (T.length - G.length + k) with
  | none => 0
  | some _ => sv G ((T.length - G.length + k) % G.length)
def climbs (T : List (Option Int)) (G : List Int) : List Int := (List.range G.length).map (climb T G)
def lst1 (T : List (Option Int)) (G : List Int) (p r : Nat) : Int :=
  (sv (climbs T G) (((r : Int) - ((T.length - G.length : Nat) : Int)).fmod (p : Int)).toNat * (p : Int)).fdiv (G.length : Int)
def least (T : List (Option Int)) (G : List Int) (p : Nat) : List Int := (List.range p).map (lst1 T G p)
/-- where the told ones are ended in the normal form -/
structure SetAt (T : List (Option Int)) (G : List Int) (p e : Nat) : Prop where
  lp : LeastP (T.drop (T.length - G.length)) (climbs T G) p
  le : e ≤ T.length - G.length
  go : ∀ n, e ≤ n → n < T.length - G.length → leadsB (tv T n) (tv T (n + p)) (sv (least T G p) (n % p)) = true
  no : e = 0 ∨ leadsB (tv T (e - 1)) (tv T (e - 1 + p)) (sv (least T G p) ((e - 1) % p)) = false
def spSettled (K : PySem.W.Frag) : Sp := fun vs H Q _ => ∃ (a b : Addr) (T : List (Option Int)) (G : List Int),
  vs = [.ref a, .ref b] ∧ SqS K H a (T.map vO) ∧ SqS K H b (G.map V.int) ∧ 1 ≤ G.length ∧ G.length ≤ 60 ∧
  G.length ≤ T.length ∧ T.length ≤ 100000 ∧
  ∀ (p e : Nat) (x y z : Addr) (H' : Hp), SetAt T G p e → Same H H' → H' z = some (.tup [.ref x, .ref y]) →
    SqS K H' x ((T.take (e + p)).map vO) → H' y = some (.lst ((least T G p).map V.int)) → Q (.ref z) H'
theorem fm_ints (f : Nat → Int) (n : Nat) : fm (fun i _ => some (V.int (f i))) 0 (rngV 0 n) = ((List.range n).map f).map V.int := by
  rw [fm_idx _ (fun i => V.int (f i)) (fun _ _ => rfl), rngV_len, List.map_map]
  apply List.map_congr_left
  intro i _
  show V.int (f (0 + i)) = V.int (f i)
  rw [Nat.zero_add]
theorem sv_range (f : Nat → Int) {n i : Nat} (h : i < n) : sv ((List.range n).map f) i = f i := by
  simp [sv, List.getD_eq_getElem?_getD, h]
theorem kp_settled (T : Txt K mg) : Kf P w K mg base 3 "settled" ["told", "gains"] (spSettled K) := by
  refine T.d_settled.okF sc_settled (fun vs H Q E h => ?_) (fun f cdv A outer s H vs Q E hA hr h => ?_)
  · obtain ⟨a, b, t, g, rfl, _⟩ := h
    rfl
  · obtain ⟨a, b, t, g, rfl, ha, hb, g1, g2, gt, big, k⟩ := h
    refine ⟨_, (pss_cons (ps_set (i := 2) sc_settled.nd rfl (Or.inr rfl) (pe_callB call_len (by rfl) (T.nb _ (by decide)) PySem.boot_len (pa_cons (pv 1) pa_nil)))
 (pss_cons (ps_set (i := 3) sc_settled.nd rfl (Or.inr rfl) (pe_op op_sub (pe_callB call_len (by rfl) (T.nb _ (by decide)) PySem.boot_len (pa_cons (pv 0) pa_nil)) (pv 2)))
 (pss_cons (ps_set (i := 4) sc_settled.nd rfl (Or.inr rfl) (pe_slice (sl_seq : SlR _ (rSlQ K)) (pv 0) (po_some (pv 3)) po_none))
 (pss_cons (ps_set (i := 5) sc_settled.nd rfl (Or.inr rfl) (pe_lc (own := [("k", 8)]) (g := gName 8) (tt := tYes) rfl sc_settled.nd (pi_range1 (by rfl) (T.nb _ (by decide)) (pa_cons (pv 2) pa_nil)) (blkOk_by (N := n_settled) (sc := defScope s_settled) (by decide +kernel)) (fun _ _ _ _ _ => pg_name (i := 8) sc_settled.nd rfl (Or.inl rfl)) (fun _ _ _ _ _ => pts_nil) (fun _ _ _ _ _ => (pe_ifExp (pt_cmpR op_isN (pe_ix (ix_seq : IxR _ (rIx K)) (pv 4) (pv 8) (fun _ _ => rfl)) (pe_non) (nomark _)) (pe_int) (pe_ix (ix_seq : IxR _ (rIx K)) (pv 1) (pe_op op_modN (pe_op op_add (pv 3) (pv 8)) (pv 2)) (fun _ _ => rfl))))))
 (pss_cons (ps_set (i := 6) sc_settled.nd rfl (Or.inr rfl) (pe_kf (kp_least_period T) hA hr (by rfl) (pa_cons (pv 4) (pa_cons (pv 5) pa_nil))))
 (pss_cons (ps_setLc (i := 7) (own := [("rest", 9)]) (g := gName 9) (tt := tYes) rfl sc_settled.nd rfl rfl (sw_true rfl rfl rfl (by decide +kernel)) (pi_range1 (by rfl) (T.nb _ (by decide)) (pa_cons (pv 6) pa_nil)) (blkOk_by (N := n_settled) (sc := defScope s_settled) (by decide +kernel)) (fun _ _ _ _ _ => pg_name (i := 9) sc_settled.nd rfl (Or.inl rfl)) (fun _ _ _ _ _ => pts_nil) (fun _ _ _ _ _ => (pe_op op_fdivN (pe_op op_mul (pe_ix (ix_list : IxR _ (rIxL K)) (pv 5) (pe_op op_modN (pe_op op_sub (pv 9) (pv 3)) (pv 6)) (fun _ _ => rfl)) (pv 6)) (pv 2))))
 (pss_one (ps_ret (pe_tup (pa_cons (pe_slice (sl_seq : SlR _ (rSlQ K)) (pv 0) po_none (po_some (pe_op op_add (pe_kf (kp_begin_back T) hA hr (by rfl) (pa_cons (pv 0) (pa_cons (pv 3) (pa_cons (pv 7) pa_nil)))) (pv 6)))) (pa_cons (pv 7) pa_nil))))))))))), ?_⟩
    obtain ⟨kd, ha⟩ := ha.toB
    refine ⟨_, rfl, _, _, rfl, hb.len, _, rfl, _, _, rfl, ha.seq.len, _, rfl, _, _, rfl, rfl, ?_⟩
    rw [List.length_map, List.length_map]
    refine ⟨_, rfl, _, rfl, _, rfl, kd, a, _, rfl, ha, fun q H0 hs0 hq => ?_⟩
    have eb : ((t.length : Int) - (g.length : Int)) = ((t.length - g.length : Nat) : Int) := by omega
    generalize hb0 : t.length - g.length = b0 at eb
    rw [show cutV (t.map vO) (some ((t.length : Int) - (g.length : Int))) none = (t.drop b0).map vO by rw [eb, cut_from, List.map_drop]] at hq
    dsimp only [tNext, tRet, tCB, tCons]
    refine ⟨_, rfl, _, rfl, by omega, by omega, fun D hD => ?_⟩
    rw [eb, Int.toNat_natCast]
    have dl : (t.drop b0).length = g.length := by
      rw [List.length_drop]
      omega
    refine lc_rng (r := fun i _ => some (.int (climb t g i))) (by show _ ≤ sizeLine; exact Nat.le_trans g2 (by decide)) hD ?_ ?_
    · intro i H' hi hH Ky Kn hy _
      have hq' := SqB.same hq hH
      have hb' : SqS K H' b (g.map V.int) := hb.new (hs0.trans hH)
      refine ⟨rfl, yes_run ?_⟩
      refine ⟨_, rfl, _, rfl, rix_seq hq'.seq (at_tv (k := i) (by omega) (by omega)) ?_⟩
      refine ⟨rfl, _, rfl, ?_⟩
      rw [tv_drop]
      cases e : tv t (b0 + i) with
      | none =>
        refine iteT ?_
        refine hy _ ?_
        show some (V.int (climb t g i)) = _
        unfold climb
        rw [hb0, e]
      | some x =>
        refine iteF ?_
        refine ⟨_, rfl, _, rfl, _, rfl, _, _, rfl, rfl, _, rfl, _, _, rfl, rfl, by omega, ?_⟩
        have em : ((b0 : Int) + (0 + (i : Int))).fmod (g.length : Int) = (((b0 + i) % g.length : Nat) : Int) := by
          rw [Int.fmod_eq_emod_of_nonneg _ (by omega), Int.zero_add]
          rfl
        refine rix_seq hb' (at_sv em (Nat.mod_lt _ (by omega))) ?_
        refine hy _ ?_
        show some (V.int (climb t g i)) = _
        unfold climb
        rw [hb0, e]
    · rw [fm_ints]
      have hn : Same H0 (upd H0 D (.lst ((climbs t g).map V.int))) := Same.new hD
      have gn : upd H0 D (.lst ((climbs t g).map V.int)) D = some (.lst ((climbs t g).map V.int)) := upd_same
      rw [show (List.range g.length).map (climb t g) = climbs t g from rfl]
      generalize upd H0 D (.lst ((climbs t g).map V.int)) = H1 at hn gn ⊢
      have hs1 : Same H H1 := hs0.trans hn
      refine ⟨_, rfl, _, rfl, q, D, t.drop b0, climbs t g, rfl, (SqB.same hq hn).seq, SqL.of gn, ?_, by omega, by omega, fun p H3 s3 hp => ?_⟩
      · unfold climbs
        rw [dl, List.length_map, List.length_range]
      have p1 : 1 ≤ p := hp.1
      have p2 : p ≤ g.length := by
        have := hp.2.1
        omega
      have gD : H3 D = some (.lst ((climbs t g).map V.int)) := s3 _ _ gn
      have hs3 : Same H H3 := hs1.trans s3
      clear hs1 s3
      dsimp only [tNext, tRet, tCB, tCons]
      refine ⟨_, rfl, _, rfl, by omega, by omega, fun D2 hD2 => ?_⟩
      rw [Int.toNat_natCast]
      refine lc_rng (r := fun i _ => some (.int (lst1 t g p i))) (by show _ ≤ sizeLine; exact Nat.le_trans (Nat.le_trans p2 g2) (by decide)) hD2 ?_ ?_
      · intro i H' hi hH Ky Kn hy _
        have hD' : H' D = some (.lst ((climbs t g).map V.int)) := hH D _ gD
        refine ⟨rfl, yes_run ?_⟩
        have m0 := Int.fmod_nonneg_of_pos ((i : Int) - (b0 : Int)) (show 0 < (p : Int) by omega)
        have m1 := Int.fmod_lt_of_pos ((i : Int) - (b0 : Int)) (show 0 < (p : Int) by omega)
        have em : ((0 + (i : Int)) - (b0 : Int)).fmod (p : Int) = (((((i : Int) - (b0 : Int)).fmod (p : Int)).toNat : Nat) : Int) := by
          rw [Int.zero_add, Int.toNat_of_nonneg m0]
        refine ⟨_, rfl, _, rfl, _, rfl, _, _, rfl, rfl, _, rfl, _, _, rfl, rfl, by omega, ?_⟩
        refine ⟨_, _, _, _, rfl, rfl, SqL.of hD', at_sv em ?_, ?_⟩
        · unfold climbs
          rw [List.length_map, List.length_range]
          omega
        refine ⟨_, rfl, _, _, rfl, rfl, .inr (by constructor <;> omega), _, rfl, _, _, rfl, rfl, by constructor <;> omega, ?_⟩
        refine hy _ ?_
        show some (V.int (lst1 t g p i)) = _
        unfold lst1
        rw [hb0]
      · rw [fm_ints]
        have hs2 : Same H (upd H3 D2 (.lst ((least t g p).map V.int))) := hs3.trans (Same.new hD2)
        have hL : upd H3 D2 (.lst ((least t g p).map V.int)) D2 = some (.lst ((least t g p).map V.int)) := upd_same
        rw [show (List.range p).map (lst1 t g p) = least t g p from rfl]
        generalize upd H3 D2 (.lst ((least t g p).map V.int)) = H2 at hs2 hL ⊢
        have ha2 := SqB.same ha hs2
        have l1 : (least t g p).length = p := by
          unfold least
          rw [List.length_map, List.length_range]
        refine ⟨_, rfl, _, rfl, _, rfl, _, rfl, a, D2, t, least t g p, b0, rfl, ha2.seq, SqL.of hL, by omega, by omega, by omega, fun n h1 h2 h3 => ?_⟩
        rw [l1] at h2 h3
        have et : cutV (t.map vO) none (some ((n : Int) + (p : Int))) = (t.take (n + p)).map vO := by
          rw [show ((n : Int) + (p : Int)) = ((n + p : Nat) : Int) by omega, cut_to, List.map_take]
        refine ⟨_, rfl, _, _, rfl, rfl, _, rfl, kd, a, _, rfl, ha2, fun x H4 s4 hx => ⟨_, rfl, (by show 2 ≤ sizeLine; decide), fun z hz => ?_⟩⟩
        rw [et] at hx
        exact k p n x D2 z _ ⟨by rw [hb0]; exact hp, by rw [hb0]; exact h1, by rw [hb0]; exact h2, h3⟩
          (hs2.trans (s4.trans (Same.new hz))) upd_same (SqB.same hx (Same.new hz)).seq (upd_new hz (s4 _ _ hL))
end
end KG
namespace KG
open PySem L2
theorem SetAt.p1 {T : List (Option Int)} {G : List Int} {p e : Nat} (h : SetAt T G p e) (g1 : 1 ≤ G.length) (gt : G.length ≤ T.length) :
    1 ≤ p ∧ p ≤ G.length ∧ e + p ≤ T.length ∧ (T.take (e + p)).length = e + p ∧ (least T G p).length = p := by
  have h1 := h.lp.1
  have h2 := h.lp.2.1
  have h3 := h.le
  rw [List.length_drop] at h2
  refine ⟨h1, by omega, by omega, by rw [List.length_take]; omega, ?_⟩
  unfold least
  rw [List.length_map, List.length_range]
theorem climbs_sv {T : List (Option Int)} {G : List Int} {k : Nat} (h : k < G.length) : sv (climbs T G) k = climb T G k := sv_range _ h
theorem least_sv {T : List (Option Int)} {G : List Int} {p r : Nat} (h : r < p) : sv (least T G p) r = lst1 T G p r := sv_range _ h
theorem fmod_nat {n b p : Nat} (h : b ≤ n) (hp : 0 < p) : ((((n % p : Nat) : Int) - (b : Int)).fmod (p : Int)).toNat = (n - b) % p := by
  have e1 : (((n % p : Nat) : Int) - (b : Int)).fmod (p : Int) = (((n - b) % p : Nat) : Int) := by
    rw [Int.fmod_eq_emod_of_nonneg _ (by omega)]
    have e2 : (((n - b) % p : Nat) : Int) = ((n : Int) - (b : Int)) % (p : Int) := by
      rw [Int.natCast_emod]
      congr 1
      omega
    rw [e2, Int.natCast_emod, Int.emod_sub_emod]
  rw [e1, Int.toNat_natCast]
section
variable {T : List (Option Int)} {G : List Int} {p e : Nat}
/-- the least gain at a rest of the tail -/
theorem least_at (hp : 0 < p) {n : Nat} (h : T.length - G.length ≤ n) :
    sv (least T G p) (n % p) = (sv (climbs T G) ((n - (T.length - G.length)) % p) * (p : Int)).fdiv (G.length : Int) := by
  rw [least_sv (Nat.mod_lt _ hp)]
  unfold lst1
  rw [fmod_nat h hp]
theorem per_mod (hS : SetAt T G p e) (g1 : 1 ≤ G.length) (gt : G.length ≤ T.length) {k : Nat} (hk : k < G.length) :
    sv (climbs T G) k = sv (climbs T G) (k % p) ∧ (tv T (T.length - G.length + k) = none ↔ tv T (T.length - G.length + k % p) = none) := by
  obtain ⟨p1, p2, p3, p4, p5⟩ := hS.p1 g1 gt
  have dl : (T.drop (T.length - G.length)).length = G.length := by
    rw [List.length_drop]
    omega
  induction k using Nat.strongRecOn with
  | _ k ih =>
    rcases Nat.lt_or_ge k p with z | z
    · rw [Nat.mod_eq_of_lt z]
      exact ⟨rfl, Iff.rfl⟩
    · rcases hS.lp.2.2.2.1 with q | q
      · omega
      · have h1 := q (k - p) (by omega)
        have h2 := ih (k - p) (by omega) (by omega)
        have e1 : k - p + p = k := by omega
        have e2 : k % p = (k - p) % p := by
          rw [← Nat.add_mod_right (k - p) p, e1]
        unfold PerAt at h1
        rw [e1, tv_drop, tv_drop] at h1
        rw [e2]
        exact ⟨h1.2.1.symm.trans h2.1, h1.1.symm.trans h2.2⟩
/-- the least gains times the parts -/
theorem least_mul (hS : SetAt T G p e) (g1 : 1 ≤ G.length) (gt : G.length ≤ T.length) {k : Nat} (hk : k < p)
    (hn : tv T (T.length - G.length + k) ≠ none) :
    (sv (climbs T G) k * (p : Int)).fdiv (G.length : Int) * (G.length : Int) = sv (climbs T G) k * (p : Int) := by
  obtain ⟨p1, p2, p3, p4, p5⟩ := hS.p1 g1 gt
  have dl : (T.drop (T.length - G.length)).length = G.length := by
    rw [List.length_drop]
    omega
  have gz : (G.length : Int) ≠ 0 := by omega
  have h3 := hS.lp.2.2.1
  rw [dl] at h3
  obtain ⟨m, hm⟩ := h3
  have hpm : ((p : Int) * (m : Int)) = (G.length : Int) := by
    rw [hm]
    exact (Int.natCast_mul p m).symm
  rcases hS.lp.2.2.2.1 with q | q
  · rw [dl] at q
    subst q
    rw [Int.mul_fdiv_cancel _ gz]
  · rcases Nat.lt_or_ge p G.length with z | z
    · have m2 : 2 ≤ m := by
        rcases Nat.lt_or_ge m 2 with y | y
        · have : m = 0 ∨ m = 1 := by omega
          rcases this with y | y
          · subst y
            omega
          · subst y
            omega
        · exact y
      have : p * 2 ≤ G.length := by
        rw [hm]
        exact Nat.mul_le_mul_left _ m2
      have h1 := q k (by omega)
      unfold PerAt at h1
      rw [tv_drop, tv_drop] at h1
      have dm : G.length / p = m := by
        rw [hm]
        exact Nat.mul_div_cancel_left _ (by omega)
      rw [dl, dm] at h1
      cases e1 : tv T (T.length - G.length + k) with
      | none => exact absurd e1 hn
      | some i =>
        cases e2 : tv T (T.length - G.length + (k + p)) with
        | none => exact absurd (h1.1.mpr e2) hn
        | some j =>
          have h2 := h1.2.2 i j e1 e2
          rw [← h2]
          have e3 : (j - i) * (m : Int) * (p : Int) = (j - i) * (G.length : Int) := by
            rw [Int.mul_assoc, Int.mul_comm (m : Int), hpm]
          rw [e3, Int.mul_fdiv_cancel _ gz]
    · have : p = G.length := by omega
      subst this
      rw [Int.mul_fdiv_cancel _ gz]
/-- one period on -/
theorem step (hS : SetAt T G p e) (g1 : 1 ≤ G.length) (gt : G.length ≤ T.length) {n : Nat} (h1 : e ≤ n) (h2 : n + p < T.length) :
    (tv T n = none ↔ tv T (n + p) = none) ∧ ∀ i j, tv T n = some i → tv T (n + p) = some j → j = i + sv (least T G p) (n % p) := by
  obtain ⟨p1, p2, p3, p4, p5⟩ := hS.p1 g1 gt
  have dl : (T.drop (T.length - G.length)).length = G.length := by
    rw [List.length_drop]
    omega
  rcases Nat.lt_or_ge n (T.length - G.length) with z | z
  · have h := hS.go n h1 z
    cases e1 : tv T n with
    | none =>
      rw [e1] at h
      cases e2 : tv T (n + p) with
      | none => exact ⟨⟨fun _ => rfl, fun _ => rfl⟩, fun i j a _ => by cases a⟩
      | some j =>
        rw [e2] at h
        cases h
    | some i =>
      rw [e1] at h
      have h3 : tv T (n + p) = some (i + sv (least T G p) (n % p)) := of_decide_eq_true h
      rw [h3]
      refine ⟨⟨fun a => (by cases a), fun a => (by cases a)⟩, fun i' j a b => ?_⟩
      cases a
      cases b
      rfl
  · rcases hS.lp.2.2.2.1 with q | q
    · omega
    · have h3 := q (n - (T.length - G.length)) (by omega)
      unfold PerAt at h3
      rw [tv_drop, tv_drop, show T.length - G.length + (n - (T.length - G.length)) = n by omega,
        show T.length - G.length + (n - (T.length - G.length) + p) = n + p by omega, dl] at h3
      refine ⟨h3.1, fun i j a b => ?_⟩
      have h4 := h3.2.2 i j a b
      have h5 := per_mod hS g1 gt (k := n - (T.length - G.length)) (by omega)
      have hk : (n - (T.length - G.length)) % p < p := Nat.mod_lt _ (by omega)
      have hne : tv T (T.length - G.length + (n - (T.length - G.length)) % p) ≠ none := by
        intro y
        have := h5.2.mpr y
        rw [show T.length - G.length + (n - (T.length - G.length)) = n by omega, a] at this
        cases this
      have h6 := least_mul hS g1 gt hk hne
      rw [least_at (by omega) z]
      rw [← h5.1] at h6 ⊢
      rw [← h4] at h6 ⊢
      have h7 := hS.lp.2.2.1
      rw [dl] at h7
      obtain ⟨m, hm⟩ := h7
      have dm : G.length / p = m := by
        rw [hm]
        exact Nat.mul_div_cancel_left _ (by omega)
      rw [dm] at h6 ⊢
      have hpm : ((p : Int) * (m : Int)) = (G.length : Int) := by
        rw [hm]
        exact (Int.natCast_mul p m).symm
      have e3 : (j - i) * (m : Int) * (p : Int) = (j - i) * (G.length : Int) := by
        rw [Int.mul_assoc, Int.mul_comm (m : Int), hpm]
      rw [e3, Int.mul_fdiv_cancel _ (by omega)]
      omega
theorem tv_take {k m : Nat} (h : k < m) : tv (T.take m) k = tv T k := by
  simp [tv, List.getD_eq_getElem?_getD, List.getElem?_take, h]
theorem climb_some {k : Nat} (h : tv T (T.length - G.length + k) ≠ none) : climb T G k = sv G ((T.length - G.length + k) % G.length) := by
  unfold climb
  cases e1 : tv T (T.length - G.length + k) with
  | none => exact absurd e1 h
  | some v => rfl
end
end KG
namespace KG
open PySem L2
/-- F goes on from b by the climbs c of the period N -/
structure Rate (F : Nat → Option Int) (b N : Nat) (c : Nat → Int) : Prop where
  pos : 0 < N
  go : ∀ n, b ≤ n → F (n + N) = (F n).map (· + c n)
  per : ∀ n, b ≤ n → c (n + N) = c n
  zer : ∀ n, b ≤ n → F n = none → c n = 0
theorem Rate.far {F : Nat → Option Int} {b N : Nat} {c : Nat → Int} (R : Rate F b N c) {n : Nat} (h : b ≤ n) : ∀ k : Nat, F (n + N * k) = (F n).map (· + (k : Int) * c n) ∧ c (n + N * k) = c n
  | 0 => by simp
  | k + 1 => by
    obtain ⟨h1, h2⟩ := R.far h k
    have e : n + N * (k + 1) = n + N * k + N := by rw [Nat.mul_succ, Nat.add_assoc]
    rw [e, R.go _ (by omega), R.per _ (by omega), h1, h2]
    refine ⟨?_, rfl⟩
    cases F n with
    | none => rfl
    | some x =>
      simp only [Option.map_some]
      congr 1
      have : ((k + 1 : Nat) : Int) = (k : Int) + 1 := by omega
      rw [this]
      grind
theorem Rate.cross {F : Nat → Option Int} {b1 b2 N1 N2 : Nat} {c1 c2 : Nat → Int} (R1 : Rate F b1 N1 c1) (R2 : Rate F b2 N2 c2) {n : Nat} (h1 : b1 ≤ n) (h2 : b2 ≤ n) :
    (N1 : Int) * c2 n = (N2 : Int) * c1 n := by
  cases e : F n with
  | none => rw [R1.zer n h1 e, R2.zer n h2 e]; simp
  | some x =>
    have a1 := (R1.far h1 N2).1
    have a2 := (R2.far h2 N1).1
    rw [Nat.mul_comm N2 N1, a1, e] at a2
    simp only [Option.map_some, Option.some.injEq] at a2
    omega
/-- q is a period of F from M on, told by the climbs c over N -/
def Per (F : Nat → Option Int) (M N : Nat) (c : Nat → Int) (q : Nat) : Prop := ∀ n, M ≤ n → (F (n + q) = none ↔ F n = none) ∧
  (∀ x y, F n = some x → F (n + q) = some y → (N : Int) * (y - x) = (q : Int) * c n) ∧ c (n + q) = c n
theorem Per.sub {F : Nat → Option Int} {M N : Nat} {c : Nat → Int} {q r : Nat} (h1 : Per F M N c q) (h2 : Per F M N c (q + r)) : Per F M N c r := by
  intro n hn
  obtain ⟨a1, a2, a3⟩ := h2 n hn
  obtain ⟨b1, b2, b3⟩ := h1 (n + r) (by omega)
  have e : n + r + q = n + (q + r) := by omega
  rw [e] at b1 b2 b3
  refine ⟨b1.symm.trans a1, fun x y hx hy => ?_, b3.symm.trans a3⟩
  cases hz : F (n + (q + r)) with
  | none =>
    rw [a1.mp hz] at hx
    cases hx
  | some z =>
    have u1 := a2 x z hx hz
    have u2 := b2 y z hy hz
    rw [b3.symm.trans a3] at u2
    have : ((q + r : Nat) : Int) = (q : Int) + (r : Int) := by omega
    rw [this] at u1
    grind
theorem Per.gcd {F : Nat → Option Int} {M N : Nat} {c : Nat → Int} : ∀ {q r : Nat}, Per F M N c q → Per F M N c r → Per F M N c (Nat.gcd q r) := by
  intro q
  induction q using Nat.strongRecOn with
  | _ q ih =>
    intro r
    induction r using Nat.strongRecOn with
    | _ r ih2 =>
      intro hq hr
      rcases Nat.eq_zero_or_pos q with z | z
      · rw [z, Nat.gcd_zero_left]
        exact hr
      rcases Nat.lt_or_ge r q with y | y
      · rw [Nat.gcd_comm]
        exact ih r y hr hq
      · have e : r = q + (r - q) := by omega
        have h3 : Per F M N c (r - q) := Per.sub hq (by rw [← e]; exact hr)
        have h4 := ih2 (r - q) (by omega) hq h3
        have e2 : Nat.gcd q (r - q) = Nat.gcd q r := by
          conv => rhs; rw [e]
          rw [Nat.gcd_self_add_right]
        rw [← e2]
        exact h4
/-- the value at n -/
def valR (T : List (Option Int)) (G : List Int) (n : Nat) : Option Int :=
  if n < T.length then tv T n else (tv T (n - ((n - T.length) / G.length + 1) * G.length)).map fun v => v + (((n - T.length) / G.length + 1 : Nat) : Int) * sv G (n % G.length)
section
variable {T : List (Option Int)} {G : List Int} {p e : Nat}
theorem valR_told {n : Nat} (h : n < T.length) : valR T G n = tv T n := by
  unfold valR
  rw [if_pos h]
theorem valR_far (g1 : 1 ≤ G.length) (gt : G.length ≤ T.length) {n : Nat} (h : T.length - G.length ≤ n) : valR T G (n + G.length) = (valR T G n).map (· + sv G (n % G.length)) := by
  have hn : ¬ n + G.length < T.length := by omega
  rcases Nat.lt_or_ge n T.length with z | z
  · rw [valR_told z]
    unfold valR
    rw [if_neg hn]
    have e1 : (n + G.length - T.length) / G.length = 0 := Nat.div_eq_of_lt (by omega)
    rw [e1, Nat.add_mod_right, show n + G.length - (0 + 1) * G.length = n by omega]
    cases tv T n with
    | none => rfl
    | some x =>
      simp only [Option.map_some]
      congr 1
      simp
  · unfold valR
    rw [if_neg hn, if_neg (by omega), Nat.add_mod_right]
    have e1 : (n + G.length - T.length) / G.length = (n - T.length) / G.length + 1 := by
      rw [show n + G.length - T.length = n - T.length + G.length by omega, Nat.add_div_right _ (by omega)]
    rw [e1]
    have e2 : n + G.length - ((n - T.length) / G.length + 1 + 1) * G.length = n - ((n - T.length) / G.length + 1) * G.length := by
      rw [Nat.add_mul ((n - T.length) / G.length + 1)]
      omega
    rw [e2]
    cases tv T (n - ((n - T.length) / G.length + 1) * G.length) with
    | none => rfl
    | some x =>
      simp only [Option.map_some]
      congr 1
      have : (((n - T.length) / G.length + 1 + 1 : Nat) : Int) = (((n - T.length) / G.length + 1 : Nat) : Int) + 1 := by omega
      rw [this]
      grind
/-- the climbs from the tail on -/
def cAt (T : List (Option Int)) (G : List Int) (n : Nat) : Int := climb T G ((n - (T.length - G.length)) % G.length)
theorem tail_mod (g1 : 1 ≤ G.length) (gt : G.length ≤ T.length) {n : Nat} (h : T.length - G.length ≤ n) :
    (valR T G n = none ↔ tv T (T.length - G.length + (n - (T.length - G.length)) % G.length) = none) ∧ (T.length - G.length + (n - (T.length - G.length)) % G.length) % G.length = n % G.length := by
  induction n using Nat.strongRecOn with
  | _ n ih =>
    rcases Nat.lt_or_ge n T.length with z | z
    · have e1 : (n - (T.length - G.length)) % G.length = n - (T.length - G.length) := Nat.mod_eq_of_lt (by omega)
      rw [e1, show T.length - G.length + (n - (T.length - G.length)) = n by omega, valR_told z]
      exact ⟨Iff.rfl, rfl⟩
    · obtain ⟨h1, h2⟩ := ih (n - G.length) (by omega) (by omega)
      have h3 := valR_far g1 gt (n := n - G.length) (by omega)
      rw [show n - G.length + G.length = n by omega] at h3
      have e1 : (n - G.length - (T.length - G.length)) % G.length = (n - (T.length - G.length)) % G.length := by
        conv => rhs; rw [show n - (T.length - G.length) = n - G.length - (T.length - G.length) + G.length by omega, Nat.add_mod_right]
      have e2 : (n - G.length) % G.length = n % G.length := by
        conv => rhs; rw [show n = n - G.length + G.length by omega, Nat.add_mod_right]
      rw [e1] at h1 h2
      rw [e2] at h2
      refine ⟨?_, h2⟩
      rw [h3, ← h1]
      simp
theorem rate_of (g1 : 1 ≤ G.length) (gt : G.length ≤ T.length) : Rate (valR T G) (T.length - G.length) G.length (cAt T G) := by
  refine ⟨by omega, fun n hn => ?_, fun n hn => ?_, fun n hn h => ?_⟩
  · rw [valR_far g1 gt hn]
    obtain ⟨h1, h2⟩ := tail_mod g1 gt hn
    cases ev : valR T G n with
    | none => rfl
    | some x =>
      simp only [Option.map_some]
      congr 1
      unfold cAt
      rw [climb_some (fun z => by rw [h1.mpr z] at ev; cases ev), h2]
  · unfold cAt
    rw [show n + G.length - (T.length - G.length) = n - (T.length - G.length) + G.length by omega, Nat.add_mod_right]
  · unfold cAt climb
    rw [(tail_mod g1 gt hn).1.mp h]
end
end KG
namespace KG
open PySem L2
section
variable {T : List (Option Int)} {G : List Int} {p e : Nat}
theorem p_dvd (hS : SetAt T G p e) (g1 : 1 ≤ G.length) (gt : G.length ≤ T.length) : p ∣ G.length := by
  have h := hS.lp.2.2.1
  have dl : (T.drop (T.length - G.length)).length = G.length := by
    rw [List.length_drop]
    omega
  rw [dl] at h
  exact h
theorem cAt_sv (g1 : 1 ≤ G.length) {n : Nat} : cAt T G n = sv (climbs T G) ((n - (T.length - G.length)) % G.length) := by
  rw [climbs_sv (Nat.mod_lt _ (by omega))]
  rfl
theorem cAt_mod (hS : SetAt T G p e) (g1 : 1 ≤ G.length) (gt : G.length ≤ T.length) {n : Nat} : cAt T G n = sv (climbs T G) ((n - (T.length - G.length)) % p) := by
  rw [cAt_sv g1, (per_mod hS g1 gt (Nat.mod_lt _ (by omega))).1, Nat.mod_mod_of_dvd _ (p_dvd hS g1 gt)]
theorem cAt_p (hS : SetAt T G p e) (g1 : 1 ≤ G.length) (gt : G.length ≤ T.length) {n : Nat} (h : T.length - G.length ≤ n) : cAt T G (n + p) = cAt T G n := by
  rw [cAt_mod hS g1 gt, cAt_mod hS g1 gt, show n + p - (T.length - G.length) = n - (T.length - G.length) + p by omega, Nat.add_mod_right]
theorem non_mod (hS : SetAt T G p e) (g1 : 1 ≤ G.length) (gt : G.length ≤ T.length) {n : Nat} (h : T.length - G.length ≤ n) :
    valR T G n = none ↔ tv T (T.length - G.length + (n - (T.length - G.length)) % p) = none := by
  rw [(tail_mod g1 gt h).1, (per_mod hS g1 gt (Nat.mod_lt _ (by omega))).2, Nat.mod_mod_of_dvd _ (p_dvd hS g1 gt)]
theorem least_c (hS : SetAt T G p e) (g1 : 1 ≤ G.length) (gt : G.length ≤ T.length) {n : Nat} (h : T.length - G.length ≤ n) :
    sv (least T G p) (n % p) * (G.length : Int) = cAt T G n * (p : Int) := by
  have p1 := (hS.p1 g1 gt).1
  rw [least_at p1 h, cAt_mod hS g1 gt]
  by_cases z : valR T G n = none
  · have : sv (climbs T G) ((n - (T.length - G.length)) % p) = 0 := by
      rw [← cAt_mod hS g1 gt]
      exact (rate_of g1 gt).zer n h z
    rw [this]
    simp
  · exact least_mul hS g1 gt (Nat.mod_lt _ p1) fun y => z ((non_mod hS g1 gt h).mpr y)
theorem mul_cancel {a b c : Int} (h : c ≠ 0) (e : a * c = b * c) : a = b := Int.eq_of_mul_eq_mul_right h e
theorem chainV (hS : SetAt T G p e) (g1 : 1 ≤ G.length) (gt : G.length ≤ T.length) {n : Nat} (h1 : e ≤ n) :
    ∀ j : Nat, n + p * j < T.length → tv T (n + p * j) = (tv T n).map (· + (j : Int) * sv (least T G p) (n % p))
  | 0, _ => by cases tv T n <;> simp
  | j + 1, h => by
    have e1 : n + p * (j + 1) = n + p * j + p := by rw [Nat.mul_succ, Nat.add_assoc]
    rw [e1] at h ⊢
    have ih := chainV hS g1 gt h1 j (by omega)
    obtain ⟨s1, s2⟩ := step hS g1 gt (n := n + p * j) (by omega) h
    rw [Nat.add_mul_mod_self_left] at s2
    cases ev : tv T n with
    | none =>
      rw [ev] at ih
      rw [s1.mp ih]
      rfl
    | some x =>
      rw [ev] at ih
      cases ev2 : tv T (n + p * j + p) with
      | none => rw [s1.mpr ev2] at ih; cases ih
      | some y =>
        rw [s2 _ y ih ev2]
        simp only [Option.map_some]
        congr 1
        have : ((j + 1 : Nat) : Int) = (j : Int) + 1 := by omega
        rw [this]
        grind
/-- the normal form goes on as the growth itself -/
theorem nf_go (hS : SetAt T G p e) (g1 : 1 ≤ G.length) (gt : G.length ≤ T.length) {n : Nat} (h : e ≤ n) :
    valR T G (n + p) = (valR T G n).map (· + sv (least T G p) (n % p)) := by
  obtain ⟨p1, p2, p3, p4, p5⟩ := hS.p1 g1 gt
  have R := rate_of (T := T) (G := G) g1 gt
  obtain ⟨q, hq⟩ := p_dvd hS g1 gt
  have base : ∀ n, e ≤ n → n < T.length → valR T G (n + p) = (valR T G n).map (· + sv (least T G p) (n % p)) := fun n h hn => by
    rcases Nat.lt_or_ge (n + p) T.length with z | z
    · rw [valR_told z, valR_told hn]
      obtain ⟨s1, s2⟩ := step hS g1 gt h z
      cases ev : tv T n with
      | none => rw [s1.mp ev]; rfl
      | some x =>
        cases ev2 : tv T (n + p) with
        | none => rw [s1.mpr ev2] at ev; cases ev
        | some y => rw [s2 x y ev ev2]; rfl
    · have hm : T.length - G.length ≤ n + p - G.length := by omega
      have q1 : 1 ≤ q := by
        rcases Nat.eq_zero_or_pos q with y | y
        · rw [y] at hq
          omega
        · exact y
      obtain ⟨q', rfl⟩ : ∃ q', q = q' + 1 := ⟨q - 1, by omega⟩
      have e1 : n + p - G.length + p * q' = n := by
        rw [Nat.mul_succ] at hq
        omega
      have c1 := chainV hS g1 gt (n := n + p - G.length) (by have := hS.le; omega) q' (by rw [e1]; exact hn)
      rw [e1] at c1
      have e3 : (n + p - G.length) % p = n % p := by
        conv => rhs; rw [← e1, Nat.add_mul_mod_self_left]
      rw [e3] at c1
      have c2 := R.go (n + p - G.length) hm
      rw [show n + p - G.length + G.length = n + p by omega] at c2
      rw [c2, valR_told hn, valR_told (show n + p - G.length < T.length by omega), c1]
      have l := least_c hS g1 gt hm
      rw [e3] at l
      have hN : (G.length : Int) = (p : Int) * ((q' : Int) + 1) := by
        rw [hq]
        simp
      have l2 : sv (least T G p) (n % p) * ((q' : Int) + 1) = cAt T G (n + p - G.length) := by
        refine mul_cancel (c := (p : Int)) (by omega) ?_
        rw [hN] at l
        grind
      cases tv T (n + p - G.length) with
      | none => rfl
      | some x =>
        simp only [Option.map_some]
        congr 1
        rw [← l2]
        grind
  rcases Nat.lt_or_ge n T.length with z | z
  · exact base n h z
  · -- shift back by whole periods
    have hb := hS.le
    have hm := Nat.mod_add_div (n - (T.length - G.length)) G.length
    have ml := Nat.mod_lt (n - (T.length - G.length)) (show 0 < G.length by omega)
    have en : n = T.length - G.length + (n - (T.length - G.length)) % G.length + G.length * ((n - (T.length - G.length)) / G.length) := by omega
    generalize (n - (T.length - G.length)) % G.length = r at en ml
    generalize (n - (T.length - G.length)) / G.length = k at en
    clear hm
    have b1 := base (T.length - G.length + r) (by omega) (by omega)
    have f1 := R.far (n := T.length - G.length + r) (by omega) k
    have f2 := R.far (n := T.length - G.length + r + p) (by omega) k
    have e2 : n + p = T.length - G.length + r + p + G.length * k := by omega
    have e3 : n % p = (T.length - G.length + r) % p := by
      rw [en, hq, Nat.mul_assoc, Nat.add_mul_mod_self_left]
    rw [e2, f2.1, b1, e3]
    rw [show valR T G n = valR T G (T.length - G.length + r + G.length * k) by rw [← en], f1.1, cAt_p hS g1 gt (by omega)]
    cases valR T G (T.length - G.length + r) with
    | none => rfl
    | some x =>
      simp only [Option.map_some]
      congr 1
      grind
/-- told by p -/
theorem per_p (hS : SetAt T G p e) (g1 : 1 ≤ G.length) (gt : G.length ≤ T.length) : Per (valR T G) (T.length - G.length) G.length (cAt T G) p := by
  intro n hn
  have hb := hS.le
  have h := nf_go hS g1 gt (n := n) (by omega)
  refine ⟨by rw [h]; simp, fun x y hx hy => ?_, cAt_p hS g1 gt hn⟩
  rw [h, hx] at hy
  simp only [Option.map_some, Option.some.injEq] at hy
  have l := least_c hS g1 gt hn
  rw [← hy]
  grind
theorem Per.mono {F : Nat → Option Int} {M M' N : Nat} {c : Nat → Int} {q : Nat} (h : Per F M N c q) (hm : M ≤ M') : Per F M' N c q := fun n hn => h n (by omega)
/-- no lesser period -/
theorem min_p (hS : SetAt T G p e) (g1 : 1 ≤ G.length) (gt : G.length ≤ T.length) {M d : Nat} (hM : T.length - G.length ≤ M) (h : Per (valR T G) M G.length (cAt T G) d) (d1 : 1 ≤ d) (dp : d ∣ p) : d = p := by
  obtain ⟨p1, p2, p3, p4, p5⟩ := hS.p1 g1 gt
  have R := rate_of (T := T) (G := G) g1 gt
  have dl : (T.drop (T.length - G.length)).length = G.length := by
    rw [List.length_drop]
    omega
  rcases Nat.lt_or_ge d p with z | z
  · exfalso
    have dN : d ∣ G.length := Nat.dvd_trans dp (p_dvd hS g1 gt)
    refine hS.lp.2.2.2.2 d d1 z (by rw [dl]; exact dN) ?_
    intro k hk
    rw [dl] at hk ⊢
    unfold PerAt
    rw [tv_drop, tv_drop, climbs_sv (by omega), climbs_sv (by omega)]
    have t1 : tv T (T.length - G.length + k) = valR T G (T.length - G.length + k) := (valR_told (by omega)).symm
    have t2 : tv T (T.length - G.length + (k + d)) = valR T G (T.length - G.length + k + d) := by
      rw [← Nat.add_assoc]
      exact (valR_told (by omega)).symm
    have k1 : climb T G k = cAt T G (T.length - G.length + k) := by
      unfold cAt
      rw [show T.length - G.length + k - (T.length - G.length) = k by omega, Nat.mod_eq_of_lt (by omega)]
    have k2 : climb T G (k + d) = cAt T G (T.length - G.length + k + d) := by
      unfold cAt
      rw [show T.length - G.length + k + d - (T.length - G.length) = k + d by omega, Nat.mod_eq_of_lt (by omega)]
    rw [t1, t2, k1, k2]
    generalize hn : T.length - G.length + k = n
    have f1 := R.far (n := n) (by omega) M
    have f2 := R.far (n := n + d) (by omega) M
    have big : M ≤ n + G.length * M := by
      have : 1 * M ≤ G.length * M := Nat.mul_le_mul_right _ g1
      omega
    obtain ⟨a1, a2, a3⟩ := h (n + G.length * M) big
    rw [show n + G.length * M + d = n + d + G.length * M by omega] at a1 a2 a3
    rw [f1.1, f2.1] at a1
    rw [f1.2, f2.2] at a3
    rw [f1.1, f2.1, f1.2] at a2
    refine ⟨?_, a3.symm, fun i j hi hj => ?_⟩
    · simp at a1
      exact a1.symm
    · rw [hi, hj] at a2
      have a2 := a2 _ _ rfl rfl
      rw [a3] at a2
      obtain ⟨m, hm⟩ := dN
      have e1 : G.length / d = m := by
        rw [hm]
        exact Nat.mul_div_cancel_left _ (by omega)
      rw [e1]
      have hN : (G.length : Int) = (d : Int) * (m : Int) := by
        rw [hm]
        simp
      rw [hN] at a2
      refine mul_cancel (c := (d : Int)) (by omega) ?_
      grind
  · exact Nat.le_antisymm (Nat.le_of_dvd (by omega) dp) z
end
section
variable {T1 T2 : List (Option Int)} {G1 G2 : List Int} {p1 p2 e1 e2 : Nat}
theorem per_other (h1 : SetAt T1 G1 p1 e1) (a1 : 1 ≤ G1.length) (b1 : G1.length ≤ T1.length) (h2 : SetAt T2 G2 p2 e2) (a2 : 1 ≤ G2.length) (b2 : G2.length ≤ T2.length)
    (hF : ∀ n, valR T1 G1 n = valR T2 G2 n) : Per (valR T1 G1) (T1.length + T2.length) G1.length (cAt T1 G1) p2 := by
  have eF : valR T1 G1 = valR T2 G2 := funext hF
  have R1 := rate_of (T := T1) (G := G1) a1 b1
  have R2 := rate_of (T := T2) (G := G2) a2 b2
  rw [← eF] at R2
  have q := per_p h2 a2 b2
  rw [← eF] at q
  intro n hn
  obtain ⟨u1, u2, u3⟩ := q n (by omega)
  have c1 := R1.cross R2 (n := n) (by omega) (by omega)
  have c2 := R1.cross R2 (n := n + p2) (by omega) (by omega)
  have z2 : (G2.length : Int) ≠ 0 := by omega
  refine ⟨u1, fun x y hx hy => ?_, ?_⟩
  · have := u2 x y hx hy
    refine mul_cancel z2 ?_
    grind
  · refine mul_cancel z2 ?_
    rw [u3] at c2
    grind
theorem p_same (h1 : SetAt T1 G1 p1 e1) (a1 : 1 ≤ G1.length) (b1 : G1.length ≤ T1.length) (h2 : SetAt T2 G2 p2 e2) (a2 : 1 ≤ G2.length) (b2 : G2.length ≤ T2.length)
    (hF : ∀ n, valR T1 G1 n = valR T2 G2 n) : p1 ∣ p2 := by
  have x1 := (h1.p1 a1 b1).1
  have q := per_other h1 a1 b1 h2 a2 b2 hF
  have o := (per_p h1 a1 b1).mono (M' := T1.length + T2.length) (by omega)
  have g := Per.gcd o q
  have := min_p h1 a1 b1 (by omega) g (Nat.gcd_pos_of_pos_left _ (by omega)) (Nat.gcd_dvd_left _ _)
  rw [← this]
  exact Nat.gcd_dvd_right _ _
theorem nf_le (h1 : SetAt T1 G1 p1 e1) (a1 : 1 ≤ G1.length) (b1 : G1.length ≤ T1.length) (h2 : SetAt T2 G2 p1 e2) (a2 : 1 ≤ G2.length) (b2 : G2.length ≤ T2.length)
    (hF : ∀ n, valR T1 G1 n = valR T2 G2 n) (hL : least T1 G1 p1 = least T2 G2 p1) : e2 ≤ e1 := by
  obtain ⟨x1, x2, x3, x4, x5⟩ := h2.p1 a2 b2
  rcases Nat.lt_or_ge e1 e2 with z | z
  · exfalso
    rcases h2.no with y | y
    · omega
    · have g := nf_go h1 a1 b1 (n := e2 - 1) (by omega)
      rw [hF, hF, valR_told (by omega), valR_told (by omega), hL] at g
      rw [g] at y
      cases ev : tv T2 (e2 - 1) with
      | none => rw [ev] at y; cases y
      | some i =>
        rw [ev] at y
        have : decide (some (i + sv (least T2 G2 p1) ((e2 - 1) % p1)) = some (i + sv (least T2 G2 p1) ((e2 - 1) % p1))) = false := y
        simp at this
  · exact z
/-- one normal form for each growth -/
theorem nf_uniq (h1 : SetAt T1 G1 p1 e1) (a1 : 1 ≤ G1.length) (b1 : G1.length ≤ T1.length) (h2 : SetAt T2 G2 p2 e2) (a2 : 1 ≤ G2.length) (b2 : G2.length ≤ T2.length)
    (hF : ∀ n, valR T1 G1 n = valR T2 G2 n) : T1.take (e1 + p1) = T2.take (e2 + p2) ∧ least T1 G1 p1 = least T2 G2 p2 := by
  obtain ⟨x1, x2, x3, x4, x5⟩ := h1.p1 a1 b1
  obtain ⟨y1, y2, y3, y4, y5⟩ := h2.p1 a2 b2
  have hF' : ∀ n, valR T2 G2 n = valR T1 G1 n := fun n => (hF n).symm
  obtain rfl : p1 = p2 := Nat.dvd_antisymm (p_same h1 a1 b1 h2 a2 b2 hF) (p_same h2 a2 b2 h1 a1 b1 hF')
  have hL : least T1 G1 p1 = least T2 G2 p1 := by
    apply List.ext_getElem
    · omega
    intro r r1 r2
    rw [x5] at r1
    have s1 : ∀ L : List Int, (h : r < L.length) → L[r] = sv L r := fun L h => by simp [sv, List.getD_eq_getElem?_getD, h]
    rw [s1 _ (by omega), s1 _ (by omega)]
    have hm : (r + p1 * (T1.length + T2.length)) % p1 = r := by
      rw [Nat.add_mul_mod_self_left, Nat.mod_eq_of_lt r1]
    have big : T1.length + T2.length ≤ p1 * (T1.length + T2.length) := by
      have : 1 * (T1.length + T2.length) ≤ p1 * (T1.length + T2.length) := Nat.mul_le_mul_right _ x1
      omega
    have t1 := nf_go h1 a1 b1 (n := r + p1 * (T1.length + T2.length)) (by omega)
    have t2 := nf_go h2 a2 b2 (n := r + p1 * (T1.length + T2.length)) (by omega)
    have l1 := least_c h1 a1 b1 (n := r + p1 * (T1.length + T2.length)) (by omega)
    have l2 := least_c h2 a2 b2 (n := r + p1 * (T1.length + T2.length)) (by omega)
    rw [hm] at t1 t2 l1 l2
    rw [← hF, ← hF] at t2
    cases ev : valR T1 G1 (r + p1 * (T1.length + T2.length)) with
    | none =>
      rw [(rate_of a1 b1).zer _ (by omega) ev] at l1
      rw [(rate_of a2 b2).zer _ (by omega) (by rw [← hF]; exact ev)] at l2
      have z1 : sv (least T1 G1 p1) r = 0 := mul_cancel (c := (G1.length : Int)) (by omega) (by rw [l1]; simp)
      have z2 : sv (least T2 G2 p1) r = 0 := mul_cancel (c := (G2.length : Int)) (by omega) (by rw [l2]; simp)
      rw [z1, z2]
    | some x =>
      rw [t1, ev] at t2
      simp only [Option.map_some, Option.some.injEq] at t2
      omega
  have he : e1 = e2 := Nat.le_antisymm (nf_le h2 a2 b2 h1 a1 b1 hF' hL.symm) (nf_le h1 a1 b1 h2 a2 b2 hF hL)
  subst he
  refine ⟨?_, hL⟩
  apply List.ext_getElem
  · omega
  intro i i1 i2
  have s1 : ∀ L : List (Option Int), (h : i < L.length) → L[i] = tv L i := fun L h => by simp [tv, List.getD_eq_getElem?_getD, h]
  rw [s1 _ i1, s1 _ i2, tv_take (by omega), tv_take (by omega), ← valR_told (G := G1) (by omega), ← valR_told (G := G2) (by omega)]
  exact hF i
end
end KG
namespace KG
open PySem L2
section
variable {T : List (Option Int)} {G : List Int} {p e : Nat}
theorem nf_val (hS : SetAt T G p e) (g1 : 1 ≤ G.length) (gt : G.length ≤ T.length) (n : Nat) : valR (T.take (e + p)) (least T G p) n = valR T G n := by
  obtain ⟨p1, p2, p3, p4, p5⟩ := hS.p1 g1 gt
  induction n using Nat.strongRecOn with
  | _ n ih =>
    rcases Nat.lt_or_ge n (e + p) with z | z
    · rw [valR_told (by omega), valR_told (by omega), tv_take z]
    · have h1 := valR_far (T := T.take (e + p)) (G := least T G p) (by omega) (by omega) (n := n - p) (by omega)
      have h2 := nf_go hS g1 gt (n := n - p) (by omega)
      rw [p5, show n - p + p = n by omega] at h1
      rw [show n - p + p = n by omega] at h2
      rw [h1, h2, ih (n - p) (by omega)]
end
/-- the normal form of the growth with the values F -/
def Nf (F : Nat → Option Int) (T' : List (Option Int)) (G' : List Int) : Prop :=
  ∃ (T : List (Option Int)) (G : List Int) (p e : Nat), SetAt T G p e ∧ 1 ≤ G.length ∧ G.length ≤ T.length ∧ T' = T.take (e + p) ∧ G' = least T G p ∧ ∀ n, valR T G n = F n
section
variable {F F1 F2 : Nat → Option Int} {T' T1 T2 : List (Option Int)} {G' G1 G2 : List Int}
theorem Nf.of {T : List (Option Int)} {G : List Int} {p e : Nat} (h : SetAt T G p e) (g1 : 1 ≤ G.length) (gt : G.length ≤ T.length) : Nf (valR T G) (T.take (e + p)) (least T G p) :=
  ⟨T, G, p, e, h, g1, gt, rfl, rfl, fun _ => rfl⟩
theorem Nf.uniq (h1 : Nf F T1 G1) (h2 : Nf F T2 G2) : T1 = T2 ∧ G1 = G2 := by
  obtain ⟨T, G, p, e, a1, a2, a3, rfl, rfl, a4⟩ := h1
  obtain ⟨S, D, q, f, b1, b2, b3, rfl, rfl, b4⟩ := h2
  exact nf_uniq a1 a2 a3 b1 b2 b3 fun n => (a4 n).trans (b4 n).symm
theorem Nf.val (h : Nf F T' G') (n : Nat) : valR T' G' n = F n := by
  obtain ⟨T, G, p, e, a1, a2, a3, rfl, rfl, a4⟩ := h
  rw [nf_val a1 a2 a3, a4]
theorem Nf.len (h : Nf F T' G') : 1 ≤ G'.length ∧ G'.length ≤ T'.length := by
  obtain ⟨T, G, p, e, a1, a2, a3, rfl, rfl, a4⟩ := h
  obtain ⟨p1, p2, p3, p4, p5⟩ := a1.p1 a2 a3
  rw [p4, p5]
  omega
theorem Nf.congr (h : Nf F1 T' G') (e : ∀ n, F1 n = F2 n) : Nf F2 T' G' := by
  have : F1 = F2 := funext e
  rw [← this]
  exact h
/-- equal just if their values are -/
theorem Nf.eq_iff (h1 : Nf F1 T1 G1) (h2 : Nf F2 T2 G2) : (T1 = T2 ∧ G1 = G2) ↔ ∀ n, F1 n = F2 n := by
  refine ⟨fun ⟨e1, e2⟩ n => ?_, fun e => h1.uniq (h2.congr fun n => (e n).symm)⟩
  rw [← h1.val n, ← h2.val n, e1, e2]
/-- none of the last ones None with a gain -/
theorem Nf.zero (h : Nf F T' G') {n : Nat} (h1 : T'.length - G'.length ≤ n) (h2 : n < T'.length) (h3 : tv T' n = none) : sv G' (n % G'.length) = 0 := by
  obtain ⟨T, G, p, e, a1, a2, a3, rfl, rfl, a4⟩ := h
  obtain ⟨p1, p2, p3, p4, p5⟩ := a1.p1 a2 a3
  rw [p4, p5] at h1
  rw [p4] at h2
  rw [p5]
  rw [tv_take h2] at h3
  have hb := a1.le
  -- go to a place in the tail
  have hv : valR T G (n + p * T.length) = none := by
    have : ∀ k, valR T G (n + p * k) = none := fun k => by
      induction k with
      | zero => rw [Nat.mul_zero, Nat.add_zero, valR_told (by omega)]; exact h3
      | succ k ih => rw [Nat.mul_succ, ← Nat.add_assoc, nf_go a1 a2 a3 (by omega), ih]; rfl
    exact this _
  have big : T.length ≤ p * T.length := by
    have : 1 * T.length ≤ p * T.length := Nat.mul_le_mul_right _ p1
    omega
  have l := least_c a1 a2 a3 (n := n + p * T.length) (by omega)
  rw [(rate_of a2 a3).zer _ (by omega) hv, Nat.add_mul_mod_self_left] at l
  exact mul_cancel (c := (G.length : Int)) (by omega) (by rw [l]; simp)
/-- the told ones are the fewest -/
theorem Nf.few (h : Nf F T' G') (h1 : G'.length < T'.length) :
    leadsB (tv T' (T'.length - 1 - G'.length)) (tv T' (T'.length - 1)) (sv G' ((T'.length - 1) % G'.length)) = false := by
  obtain ⟨T, G, p, e, a1, a2, a3, rfl, rfl, a4⟩ := h
  obtain ⟨p1, p2, p3, p4, p5⟩ := a1.p1 a2 a3
  rw [p4, p5] at h1
  rw [p4, p5]
  rcases a1.no with y | y
  · omega
  · rw [show e + p - 1 - p = e - 1 by omega, tv_take (by omega), tv_take (by omega)]
    rw [show e - 1 + p = e + p - 1 by omega] at y
    have : (e + p - 1) % p = (e - 1) % p := by
      rw [show e + p - 1 = e - 1 + p by omega, Nat.add_mod_right]
    rw [this]
    exact y
/-- no lesser period, however far on it begins -/
theorem Nf.min (h : Nf F T' G') {d M : Nat} {c : Nat → Int} (d1 : 1 ≤ d) (dp : d ∣ G'.length) (dl : d < G'.length)
    (h1 : ∀ n, M ≤ n → (F (n + d) = none ↔ F n = none)) (h2 : ∀ n x y, M ≤ n → F n = some x → F (n + d) = some y → y - x = c (n % d)) : False := by
  obtain ⟨T, G, p, e, a1, a2, a3, rfl, rfl, a4⟩ := h
  obtain ⟨p1, p2, p3, p4, p5⟩ := a1.p1 a2 a3
  rw [p5] at dp dl
  have eF : valR T G = F := funext a4
  subst eF
  have R := rate_of (T := T) (G := G) a2 a3
  have dN : d ∣ G.length := Nat.dvd_trans dp (p_dvd a1 a2 a3)
  obtain ⟨m, hm⟩ := dN
  -- along d, many times
  have far : ∀ k n, M ≤ n → (valR T G (n + d * k) = none ↔ valR T G n = none) ∧ ∀ x y, valR T G n = some x → valR T G (n + d * k) = some y → y - x = (k : Int) * c (n % d) := by
    intro k
    induction k with
    | zero => intro n _; exact ⟨Iff.rfl, fun x y a b => by rw [Nat.mul_zero, Nat.add_zero, a] at b; cases b; simp⟩
    | succ k ih =>
      intro n hn
      have e1 : n + d * (k + 1) = n + d * k + d := by rw [Nat.mul_succ, Nat.add_assoc]
      obtain ⟨i1, i2⟩ := ih n hn
      have j1 := h1 (n + d * k) (by omega)
      rw [e1]
      refine ⟨j1.trans i1, fun x y a b => ?_⟩
      cases ez : valR T G (n + d * k) with
      | none => rw [i1.mp ez] at a; cases a
      | some z =>
        have k1 := i2 x z a ez
        have k2 := h2 (n + d * k) z y (by omega) ez b
        rw [Nat.add_mul_mod_self_left] at k2
        have : ((k + 1 : Nat) : Int) = (k : Int) + 1 := by omega
        rw [this]
        grind
  have per : Per (valR T G) (M + T.length) G.length (cAt T G) d := by
    intro n hn
    have gN := R.go n (by omega)
    have gD := R.go (n + d) (by omega)
    have f1 := far m n (by omega)
    have f2 := far m (n + d) (by omega)
    rw [← hm] at f1 f2
    have md : (n + d) % d = n % d := Nat.add_mod_right _ _
    rw [md] at f2
    have hN : (G.length : Int) = (d : Int) * (m : Int) := by
      rw [hm]
      simp
    have key : ∀ x, valR T G n = some x → cAt T G n = (m : Int) * c (n % d) := fun x hx => by
      have := f1.2 x _ hx (by rw [gN, hx]; rfl)
      grind
    have key2 : ∀ x, valR T G (n + d) = some x → cAt T G (n + d) = (m : Int) * c (n % d) := fun x hx => by
      have := f2.2 x _ hx (by rw [gD, hx]; rfl)
      grind
    refine ⟨h1 n (by omega), fun x y hx hy => ?_, ?_⟩
    · have := h2 n x y (by omega) hx hy
      rw [key x hx]
      grind
    · cases ex : valR T G n with
      | none => rw [R.zer n (by omega) ex, R.zer (n + d) (by omega) ((h1 n (by omega)).mpr ex)]
      | some x =>
        cases ey : valR T G (n + d) with
        | none => rw [(h1 n (by omega)).mp ey] at ex; cases ex
        | some y => rw [key x ex, key2 y ey]
  have := min_p a1 a2 a3 (by omega) per d1 dp
  omega
end
end KG
namespace KG
open PySem L2
abbrev s_init : Stmt := inClass (top 43) 0
abbrev n_init : List Str := ["self", "told", "gains", "least_told", "least_gains"]
theorem sc_init : FnScope n_init ["self", "told", "gains"] (defScope s_init) :=
  ⟨rfl, rfl, rfl, by decide +kernel, rfl, by decide +kernel, by decide +kernel⟩
def gC (mg : Str → Option Value) : Addr := adr mg "Growth"
structure TxG (K : PySem.W.Frag) (mg : Str → Option Value) : Prop where
  T : Txt K mg
  mgC : mg "Growth" = some (.ref (gC mg))
  cls : Cls K (gC mg)
  nT : NoAttr K (gC mg) "told"
  nG : NoAttr K (gC mg) "gains"
  init : ∃ f fd d, Mk K (gC mg) f ∧ MD K "__init__" "Growth.__init__" s_init [.ref d] f fd ∧ Binds K fd ["self", "told", "gains"] [] ∧
    (∃ ds, Vals [.ref d] ds ∧ Binds K fd ["self", "told", "gains"] ds) ∧ ∀ H, SqT K H d [.int 0]
section
variable {P : Program} {w : World} {K : PySem.W.Frag} {mg : Str → Option Value} {base : Heap}
theorem SqT.new2 {H H' : Hp} {a : Addr} {xs : List V} (h : SqT K H a xs) (s : Same H H') : SqT K H' a xs := SqB.same (k := false) h s
/-- the object x is a growth of these rows -/
def GrowAt (K : PySem.W.Frag) (C : Addr) (H : Hp) (x : Addr) (T : List (Option Int)) (G : List Int) : Prop :=
  ∃ (dx t g : Addr), H x = some (.ins C dx [("told", .ref t), ("gains", .ref g)]) ∧ SqT K H t (T.map vO) ∧ SqT K H g (G.map V.int)
theorem GrowAt.same {C : Addr} {H H' : Hp} {x : Addr} {T : List (Option Int)} {G : List Int} (h : GrowAt K C H x T G) (s : Same H H') : GrowAt K C H' x T G := by
  obtain ⟨dx, t, g, h2, h3, h4⟩ := h
  exact ⟨dx, t, g, s _ _ h2, SqT.new2 h3 s, SqT.new2 h4 s⟩
def spInit (K : PySem.W.Frag) (C : Addr) : Sp := fun vs H Q _ => ∃ (x dx a b : Addr) (T : List (Option Int)) (G : List Int),
  vs = [.ref x, .ref a, .ref b] ∧ H x = some (.ins C dx []) ∧ SqS K H a (T.map vO) ∧ SqS K H b (G.map V.int) ∧ 1 ≤ G.length ∧ G.length ≤ 60 ∧
  G.length ≤ T.length ∧ T.length ≤ 4000 ∧ ∀ (T' : List (Option Int)) (G' : List Int) (H' : Hp), But x H H' → GrowAt K C H' x T' G' → Nf (valR T G) T' G' →
    T'.length ≤ T.length → G'.length ≤ G.length → Q .non H'
theorem SqT.but {H H' : Hp} {x a : Addr} {xs ys : List V} {C dx : Addr} {fs : List (Str × V)} (h : SqT K H a xs) (hx : H x = some (.ins C dx fs)) (b : But x H H') : SqT K H' a xs := by
  rcases h with (h | ⟨o, h⟩) | h
  · exact .inl (.inl (b a (fun z => by rw [z, hx] at h; cases h) _ h))
  · exact .inl (.inr ⟨o, b a (fun z => by rw [z, hx] at h; cases h) _ h⟩)
  · exact .inr h
theorem kp_init (TG : TxG K mg) : Kmk P w K mg base (gC mg) 4 ["self", "told", "gains"] (spInit K (gC mg)) fun d => ∃ a, d = .ref a ∧ ∀ H, SqT K H a [.int 0] := by
  have T := TG.T
  obtain ⟨f, fd, d, M, F, b0, b1, ht⟩ := TG.init
  refine ⟨f, fd, .ref d, M, b0, b1, ⟨d, rfl, ht⟩, F.okM sc_init (fun vs H Q E h => ?_) (fun f cdv A outer s H vs Q E hA hr h => ?_)⟩
  · obtain ⟨x, dx, a, b, t, g, rfl, _⟩ := h
    rfl
  · obtain ⟨x, dx, a, b, t, g, rfl, hx, ha, hb, g1, g2, gt, big, k⟩ := h
    refine ⟨_, (pss_cons (ps_if (pt_not (pt_val (pe_kf (kp_are_gains T) hA hr (by rfl) (pa_cons (pv 2) pa_nil))))
 (pss_one (ps_never)) pss_nil)
 (pss_cons (ps_if (pt_not (pt_val (pe_kf (kp_are_told T) hA hr (by rfl) (pa_cons (pv 1) (pa_cons (pe_callB call_len (by rfl) (T.nb _ (by decide)) PySem.boot_len (pa_cons (pv 2) pa_nil)) pa_nil)))))
 (pss_one (ps_never)) pss_nil)
 (pss_cons (ps_asg (pe_kf (kp_settled T) hA hr (by rfl) (pa_cons (pv 1) (pa_cons (pv 2) pa_nil))) (pg_tup rfl (pgs_cons (pg_name (i := 3) sc_init.nd rfl (Or.inl rfl)) (pgs_cons (pg_name (i := 4) sc_init.nd rfl (Or.inl rfl)) pgs_nil))))
 (pss_cons (ps_if (pt_cmpR op_gt (pe_callB call_len (by rfl) (T.nb _ (by decide)) PySem.boot_len (pa_cons (pv 3) pa_nil)) (pe_cst (by rfl) T.c_told) (nomark _))
 (pss_one (ps_never)) pss_nil)
 (pss_cons (ps_fld (pv 0) (pe_callTy call_tuple_of (by rfl) (T.nb _ (by decide)) (by decide +kernel) (pa_cons (pv 3) pa_nil)) rfl)
 (pss_one (ps_fld (pv 0) (pe_callTy call_tuple_of (by rfl) (T.nb _ (by decide)) (by decide +kernel) (pa_cons (pv 4) pa_nil)) rfl))))))), ?_⟩
    refine ⟨_, rfl, b, g, rfl, hb, g1, g2, fun H1 s1 => ?_⟩
    refine ⟨_, rfl, iteF ?_⟩
    have hb1 := hb.new s1
    refine ⟨_, rfl, _, rfl, _, _, rfl, hb1.len, a, t, _, rfl, ha.new s1, by rw [List.length_map]; omega, by omega, fun H2 s2 => ⟨_, rfl, iteF ?_⟩⟩
    have s12 := s1.trans s2
    refine ⟨_, rfl, _, rfl, a, b, t, g, rfl, ha.new s12, hb.new s12, g1, g2, gt, by omega, fun p e x1 y1 z H3 hS s3 hz hx1 hy1 => ?_⟩
    refine ⟨z, _, rfl, SqT.of hz, rfl, ?_⟩
    refine ⟨_, _, rfl, _, _, rfl, rfl, ?_⟩
    refine ⟨_, rfl, _, _, rfl, hx1.len, _, _, rfl, rfl, _, rfl, ?_⟩
    obtain ⟨p1, p2, p3, p4, p5⟩ := hS.p1 g1 gt
    have l1 : ¬ (4000 : Int) < (((t.take (e + p)).map vO).length : Int) := by
      rw [List.length_map, p4]
      omega
    rw [decide_eq_false l1]
    refine iteF ?_
    have hx3 : H3 x = some (.ins (gC mg) dx []) := s3 _ _ (s12 _ _ hx)
    have ny : y1 ≠ x := by
      intro z
      rw [z, hx3] at hy1
      cases hy1
    have fin : ∀ (t1 : Addr) (H4 : Hp), Same H3 H4 → SqT K H4 t1 ((t.take (e + p)).map vO) → ∀ (t2 : Addr), upd H4 x (.ins (gC mg) dx (putF "told" (.ref t1) [])) t2 = none →
        Q .non (upd (upd (upd H4 x (.ins (gC mg) dx (putF "told" (.ref t1) []))) t2 (.tup ((least t g p).map V.int))) x (.ins (gC mg) dx (putF "gains" (.ref t2) (putF "told" (.ref t1) [])))) := by
      intro t1 H4 s4 h4 t2 ht2
      have hx4 : H4 x = some (.ins (gC mg) dx []) := s4 _ _ hx3
      have nt2 : t2 ≠ x := by
        intro z
        rw [z, upd_same] at ht2
        cases ht2
      have bt : But x H4 (upd (upd (upd H4 x (.ins (gC mg) dx (putF "told" (.ref t1) []))) t2 (.tup ((least t g p).map V.int))) x (.ins (gC mg) dx (putF "gains" (.ref t2) (putF "told" (.ref t1) [])))) :=
        fun b hb o hbo => upd_oth hb (upd_new ht2 (upd_oth hb hbo))
      refine k _ _ _ (fun b hb o hbo => bt b hb o (s4 _ _ (s3 _ _ (s12 _ _ hbo)))) ⟨dx, t1, t2, upd_same, SqT.but (ys := []) h4 hx4 bt, SqT.of (upd_oth nt2 upd_same)⟩ (Nf.of hS g1 gt) (by omega) (by omega)
    rcases hx1 with hx1 | hx1
    · refine ⟨_, rfl, x1, _, rfl, .inl ⟨hx1, fun t1 ht1 => ?_⟩⟩
      have s4 : Same H3 (upd H3 t1 (.tup ((t.take (e + p)).map vO))) := Same.new ht1
      have g4 : upd H3 t1 (.tup ((t.take (e + p)).map vO)) t1 = some (.tup ((t.take (e + p)).map vO)) := upd_same
      generalize upd H3 t1 (.tup ((t.take (e + p)).map vO)) = H4 at s4 g4 ⊢
      refine ⟨_, rfl, x, _, dx, [], rfl, s4 _ _ hx3, TG.cls, TG.nT, by show 0 < 1000; decide, ?_⟩
      refine ⟨_, rfl, y1, _, rfl, .inl ⟨SqL.of (upd_oth ny (s4 _ _ hy1)), fun t2 ht2 => ?_⟩⟩
      refine ⟨_, rfl, x, _, dx, _, rfl, upd_new ht2 upd_same, TG.cls, TG.nG, by show 1 < 1000; decide, ?_⟩
      exact fin t1 H4 s4 (SqT.of g4) t2 ht2
    · refine ⟨_, rfl, x1, _, rfl, .inr ⟨hx1, ?_⟩⟩
      refine ⟨_, rfl, x, _, dx, [], rfl, hx3, TG.cls, TG.nT, by show 0 < 1000; decide, ?_⟩
      refine ⟨_, rfl, y1, _, rfl, .inl ⟨SqL.of (upd_oth ny hy1), fun t2 ht2 => ?_⟩⟩
      refine ⟨_, rfl, x, _, dx, _, rfl, upd_new ht2 upd_same, TG.cls, TG.nG, by show 1 < 1000; decide, ?_⟩
      exact fin x1 H3 (fun _ _ h => h) hx1 t2 ht2
end
end KG
namespace KG
open PySem L2
section
variable {P : Program} {w : World} {K : PySem.W.Frag} {mg : Str → Option Value} {base : Heap}
theorem upd_oth' {H : Hp} {a b : Addr} {o : HO} (h : b ≠ a) : upd H a o b = H b := by
  unfold upd
  rw [if_neg h]
theorem made_same {H H1 H' : Hp} {x dx : Addr} {o1 o2 : HO} (s : Same H H1) (hx : H1 x = none) (hdx : H1 dx = none)
    (hb : But x (upd (upd H1 dx o1) x o2) H') : H x = none ∧ Same H H' := by
  refine ⟨s.free hx, fun b o h => ?_⟩
  have h1 := s _ _ h
  have n1 : b ≠ x := by
    intro z
    rw [z, hx] at h1
    cases h1
  exact hb b n1 o (upd_oth n1 (upd_new hdx h1))
/-- a new growth with the values F, no longer than told -/
def NewG (K : PySem.W.Frag) (C : Addr) (H : Hp) (F : Nat → Option Int) (t g : Nat) (R : V → Hp → Prop) : Prop :=
  ∀ (x : Addr) (T' : List (Option Int)) (G' : List Int) (H' : Hp), H x = none → Same H H' → GrowAt K C H' x T' G' → Nf F T' G' → T'.length ≤ t → G'.length ≤ g → R (.ref x) H'
def spMade (K : PySem.W.Frag) (C : Addr) : Sp := fun vs H Q _ => ∃ (a b : Addr) (T : List (Option Int)) (G : List Int),
  vs = [.ref a, .ref b] ∧ SqS K H a (T.map vO) ∧ SqS K H b (G.map V.int) ∧ 1 ≤ G.length ∧ G.length ≤ 60 ∧ G.length ≤ T.length ∧ T.length ≤ 4000 ∧
  NewG K C H (valR T G) T.length G.length Q
theorem kp_made (TG : TxG K mg) : Kf P w K mg base 6 "made" ["told", "gains"] (spMade K (gC mg)) := by
  have T := TG.T
  refine T.d_made.okF sc_made (fun vs H Q E h => ?_) (fun f cdv A outer s H vs Q E hA hr h => ?_)
  · obtain ⟨a, b, t, g, rfl, _⟩ := h
    rfl
  · obtain ⟨a, b, t, g, rfl, ha, hb, g1, g2, gt, big, k⟩ := h
    refine ⟨_, (pss_cons (ps_asg (pe_kf (kp_settled T) hA hr (by rfl) (pa_cons (pv 0) (pa_cons (pv 1) pa_nil))) (pg_tup rfl (pgs_cons (pg_name (i := 2) sc_made.nd rfl (Or.inl rfl)) (pgs_cons (pg_name (i := 3) sc_made.nd rfl (Or.inl rfl)) pgs_nil))))
 (pss_cons (ps_if (pt_cmpR op_gt (pe_callB call_len (by rfl) (T.nb _ (by decide)) PySem.boot_len (pa_cons (pv 3) pa_nil)) (pe_cst (by rfl) T.c_gains) (nomark _))
 (pss_one (ps_never)) pss_nil)
 (pss_cons (ps_if (pt_cmpR op_gt (pe_callB call_len (by rfl) (T.nb _ (by decide)) PySem.boot_len (pa_cons (pv 2) pa_nil)) (pe_cst (by rfl) T.c_told) (nomark _))
 (pss_one (ps_never)) pss_nil)
 (pss_cons (ps_set (i := 4) sc_made.nd rfl (Or.inl rfl) (pe_kmk1 (kp_init TG) hr (by rfl) TG.mgC (pa_cons (pe_tup (pa_cons (pe_int) pa_nil)) pa_nil) (fun σ H Q Q' h ⟨l, z⟩ => ⟨l, fun p hp => h _ _ (z p hp)⟩)))
 (pss_cons (ps_fld (pv 4) (pe_callTy call_tuple_of (by rfl) (T.nb _ (by decide)) (by decide +kernel) (pa_cons (pv 2) pa_nil)) rfl)
 (pss_cons (ps_fld (pv 4) (pe_callTy call_tuple_of (by rfl) (T.nb _ (by decide)) (by decide +kernel) (pa_cons (pv 3) pa_nil)) rfl)
 (pss_one (ps_ret (pv 4))))))))), ?_⟩
    refine ⟨_, rfl, _, rfl, a, b, t, g, rfl, ha, hb, g1, g2, gt, by omega, fun p e x1 y1 z H1 hS s1 hz hx1 hy1 => ?_⟩
    obtain ⟨p1, p2, p3, p4, p5⟩ := hS.p1 g1 gt
    refine ⟨z, _, rfl, SqT.of hz, rfl, ?_⟩
    refine ⟨_, _, rfl, _, _, rfl, rfl, ?_⟩
    refine ⟨_, rfl, _, _, rfl, len_lst hy1, _, _, rfl, rfl, _, rfl, ?_⟩
    rw [List.length_map, p5, decide_eq_false (by omega)]
    refine iteF ?_
    refine ⟨_, rfl, _, _, rfl, hx1.len, _, _, rfl, rfl, _, rfl, ?_⟩
    rw [List.length_map, p4, decide_eq_false (by omega)]
    refine iteF ?_
    dsimp only [tNext, tRet, tSeq, tAsg]
    refine ⟨(by show 1 ≤ sizeLine; decide), fun l hl => fun x dx d hx hdx ne hd => ?_⟩
    obtain ⟨ad, rfl, ht⟩ := hd
    have hL : upd (upd (upd H1 l (.tup [.int 0])) dx (.own x)) x (.ins (gC mg) dx []) l = some (.tup [.int 0]) :=
      upd_new (by rw [upd_oth' ne.symm]; exact hx) (upd_new hdx upd_same)
    refine ⟨x, dx, l, ad, [some 0], [0], rfl, upd_same, .inr (SqT.of hL), .inr (ht _), Nat.le_of_ble_eq_true rfl, Nat.le_of_ble_eq_true rfl, Nat.le_of_ble_eq_true rfl, Nat.le_of_ble_eq_true rfl,
      fun T0 G0 H2 hb hg _ _ _ => ?_⟩
    obtain ⟨hfx, s2⟩ := made_same (Same.new hl) hx hdx hb
    refine ⟨rfl, ?_⟩
    obtain ⟨dx2, u1, u2, q1, _, _⟩ := hg
    have nx : ∀ b o, H1 b = some o → b ≠ x := fun b o e z => by rw [z, hfx] at e; cases e
    have hx2 : SqS K H2 x1 ((t.take (e + p)).map vO) := hx1.new s2
    have hy2 := s2 _ _ hy1
    have ny : y1 ≠ x := nx _ _ hy1
    have fin : ∀ (t1 : Addr) (H4 : Hp), Same H2 H4 → SqT K H4 t1 ((t.take (e + p)).map vO) → ∀ (t2 : Addr), upd H4 x (.ins (gC mg) dx2 [("told", .ref t1), ("gains", .ref u2)]) t2 = none →
        Q (.ref x) (upd (upd (upd H4 x (.ins (gC mg) dx2 [("told", .ref t1), ("gains", .ref u2)])) t2 (.tup ((least t g p).map V.int))) x (.ins (gC mg) dx2 [("told", .ref t1), ("gains", .ref t2)])) := by
      intro t1 H4 s4 h4 t2 ht2
      have hx4 := s4 _ _ q1
      have nt2 : t2 ≠ x := by
        intro z
        rw [z, upd_same] at ht2
        cases ht2
      have bt : But x H4 (upd (upd (upd H4 x (.ins (gC mg) dx2 [("told", .ref t1), ("gains", .ref u2)])) t2 (.tup ((least t g p).map V.int))) x (.ins (gC mg) dx2 [("told", .ref t1), ("gains", .ref t2)])) :=
        fun b hb o hbo => upd_oth hb (upd_new ht2 (upd_oth hb hbo))
      have sH : Same H1 H4 := s2.trans s4
      have hfx0 : H x = none := by
        cases ez : H x with
        | none => rfl
        | some o => rw [s1 _ _ ez] at hfx; cases hfx
      refine k x _ _ _ hfx0 (fun b o hbo => ?_) ⟨dx2, t1, t2, upd_same, SqT.but (ys := []) h4 hx4 bt, SqT.of (upd_oth nt2 upd_same)⟩ (Nf.of hS g1 gt) (by omega) (by omega)
      have hb1 := s1 _ _ hbo
      exact bt b (nx b o hb1) o (sH _ _ hb1)
    rcases hx2 with hx2 | hx2
    · refine ⟨_, rfl, x1, _, rfl, .inl ⟨hx2, fun t1 ht1 => ?_⟩⟩
      have s4 : Same H2 (upd H2 t1 (.tup ((t.take (e + p)).map vO))) := Same.new ht1
      have g4 : upd H2 t1 (.tup ((t.take (e + p)).map vO)) t1 = some (.tup ((t.take (e + p)).map vO)) := upd_same
      generalize upd H2 t1 (.tup ((t.take (e + p)).map vO)) = H4 at s4 g4 ⊢
      refine ⟨_, rfl, x, _, dx2, _, rfl, s4 _ _ q1, TG.cls, TG.nT, by show 2 < 1000; decide, ?_⟩
      refine ⟨_, rfl, y1, _, rfl, .inl ⟨SqL.of (upd_oth ny (s4 _ _ hy2)), fun t2 ht2 => ?_⟩⟩
      refine ⟨_, rfl, x, _, dx2, _, rfl, upd_new ht2 upd_same, TG.cls, TG.nG, by show 2 < 1000; decide, ?_⟩
      exact ⟨_, rfl, fin t1 H4 s4 (SqT.of g4) t2 ht2⟩
    · refine ⟨_, rfl, x1, _, rfl, .inr ⟨hx2, ?_⟩⟩
      refine ⟨_, rfl, x, _, dx2, _, rfl, q1, TG.cls, TG.nT, by show 2 < 1000; decide, ?_⟩
      refine ⟨_, rfl, y1, _, rfl, .inl ⟨SqL.of (upd_oth ny hy2), fun t2 ht2 => ?_⟩⟩
      refine ⟨_, rfl, x, _, dx2, _, rfl, upd_new ht2 upd_same, TG.cls, TG.nG, by show 2 < 1000; decide, ?_⟩
      exact ⟨_, rfl, fin x1 H2 (fun _ _ h => h) hx2 t2 ht2⟩
end
end KG
namespace L2
open PySem PySem.Spec PyProof.Rows
end L2
namespace L2
open PySem PySem.Spec PyProof.Rows
def IsB (k : Bool) (h : Heap) (a : Addr) (items : Array Value) : Prop := match k with | true => h.IsList a items | false => h.IsTuple a items
def IterB (k : Bool) (h : Heap) (i a : Addr) (n : Nat) : Prop := match k with | true => h.IsListIter i a n | false => h.IsTupleIter i a n
def iterO (k : Bool) (a : Addr) : Obj := match k with | true => { cls := .type "list_iterator", data := .fields #[.ref a, .int 0 0] } | false => { cls := .type "tuple_iterator", data := .fields #[.ref a, .int 0 0] }
theorem drawsB {prog : Program} {w : World} {A : Around} (k : Bool) (hh : A.handled = none) (it l : Addr) (hne : l ≠ it) (items : Array Value) :
    Draws prog w A it [it, l] items.size (fun i v => items[i]? = some v) (fun i h => IterB k h it l i ∧ IsB k h l items) := by
  cases k
  · exact Draws.tuple hh it l hne items
  · exact Draws.list hh it l hne items
theorem beginsB (k : Bool) (l : Addr) (items : Array Value) : Begins (.ref l) (iterO k l) fun h => IsB k h l items := by
  cases k
  · exact begins_tuple l items
  · exact begins_list l items
theorem IsB.lt {k : Bool} {h : Heap} {a : Addr} {items : Array Value} (x : IsB k h a items) : a < h.objs.size := by
  cases k
  · obtain ⟨o, ho, _⟩ := x
    exact Heap.lt_size ho
  · obtain ⟨o, ho, _⟩ := x
    exact Heap.lt_size ho
theorem IterB.ob {k : Bool} {h : Heap} {i a : Addr} {n : Nat} (x : IterB k h i a n) : ∃ o, h.get? i = some o ∧ o.data = .fields #[.ref a, .int n 0] := by
  cases k
  · obtain ⟨o, ho, _, hd⟩ := x
    exact ⟨o, ho, hd⟩
  · obtain ⟨o, ho, _, hd⟩ := x
    exact ⟨o, ho, hd⟩
theorem IterB.at {k : Bool} {h h' : Heap} {i a : Addr} {n : Nat} (x : IterB k h i a n) (hk : ∀ o, h.get? i = some o → h'.get? i = some o) : IterB k h' i a n := by
  cases k
  · obtain ⟨o, ho, r⟩ := x
    exact ⟨o, hk o ho, r⟩
  · obtain ⟨o, ho, r⟩ := x
    exact ⟨o, hk o ho, r⟩
theorem IterB.start {k : Bool} {h : Heap} {i a : Addr} (e : h.get? i = some (iterO k a)) : IterB k h i a 0 := by
  cases k
  · exact ⟨_, e, rfl, rfl⟩
  · exact ⟨_, e, rfl, rfl⟩
section
variable {X : Cx} {pins : List (Addr × Obj)} {σ : L2.St} {H : Hp} {s : Shared} {a : Addr} {xs ys : List V} {k : Bool}
theorem seqB (I : Inv X pins σ H s) (h : SqB k X.K H a xs) : ∃ its : List Value, Vals xs its ∧ IsB k s.heap a its.toArray ∧ xs.length ≤ sizeLine := by
  cases k
  · obtain ⟨its, rv, p, z⟩ := I.tuple h
    exact ⟨its, rv, p, z⟩
  · obtain ⟨its, rv, p, z⟩ := I.list h
    exact ⟨its, rv, p.isList, z⟩
theorem seqB_inj (I : Inv X pins σ H s) (h : SqB k X.K H a xs) (h' : SqB k X.K H a ys) : xs = ys := by
  cases k
  · exact I.tuple_inj h h'
  · exact I.list_inj h h'
end
/-- each item of the one with one of the other in a new pair -/
def Itz2 (k l : Bool) (K : PySem.W.Frag) (a b : Addr) : It :=
  ⟨fun i H => ∃ (xs ys : List V) (x y : V), SqB k K H a xs ∧ SqB l K H b ys ∧ xs[i]? = some x ∧ ys[i]? = some y,
    fun i H v H' => ∃ T x y, v = .ref T ∧ H T = none ∧ H' = upd H T (.tup [x, y]) ∧ (∀ xs, SqB k K H a xs → xs[i]? = some x) ∧ (∀ ys, SqB l K H b ys → ys[i]? = some y),
    fun i H => ∃ xs ys : List V, SqB k K H a xs ∧ SqB l K H b ys ∧ i ≤ xs.length ∧ i ≤ ys.length ∧ (i = xs.length ∨ i = ys.length)⟩
structure ZipB (z TI TO i1 i2 a b : Addr) : Prop where
  S : ZipSep2 z TI TO i1 i2 [i1, a] [i2, b]
  ai : a ≠ i1
  bi : b ≠ i2
theorem turn_zip2 {P : Program} {w : World} {K : PySem.W.Frag} {elts : List Expr} {kk : Nat} {tpos : Pos} {a b zz TI TO i1 i2 : Addr} (k l : Bool) (D : ZipB zz TI TO i1 i2 a b) :
    Turn P w K (.Tuple elts kk tpos) (Itz2 k l K a b) [zz, TI, TO, i1, i2] zz (fun i h => IsZip h zz TI TO .none ∧ IsTupOf2 h TI (.ref i1) (.ref i2) ∧ (∃ x y, IsTupOf2 h TO x y) ∧ IterB k h i1 a i ∧ IterB l h i2 b i) where
  mem := by simp
  obj := fun i h st c hc => by
    obtain ⟨hz, hTI, ⟨x, y, hTO⟩, j1, j2⟩ := st
    obtain ⟨o1, e1, d1⟩ := j1.ob
    obtain ⟨o2, e2, d2⟩ := j2.ob
    have e' : c = zz ∨ c = TI ∨ c = TO ∨ c = i1 ∨ c = i2 := by simpa using hc
    rcases e' with q | q | q | q | q
    · rw [q]; exact ⟨_, hz, fun v q => nomatch q⟩
    · rw [q]; exact ⟨_, hTI, fun v q => nomatch q⟩
    · rw [q]; exact ⟨_, hTO, fun v q => nomatch q⟩
    · rw [q]; exact ⟨o1, e1, fun v q => by rw [d1] at q; cases q⟩
    · rw [q]; exact ⟨o2, e2, fun v q => by rw [d2] at q; cases q⟩
  keep := fun i h h' st kp => by
    obtain ⟨hz, hTI, ⟨x, y, hTO⟩, h1, h2⟩ := st
    exact ⟨kp zz (by simp) _ hz, kp TI (by simp) _ hTI, ⟨x, y, kp TO (by simp) _ hTO⟩, h1.at fun o q => kp i1 (by simp) o q, h2.at fun o q => kp i2 (by simp) o q⟩
  item := by
    intro X hP hw hK hc i pins s σ H E I hf st hg
    subst hP hw hK
    obtain ⟨hz, hTI, ⟨x0, y0, hTO⟩, h1, h2⟩ := st
    obtain ⟨xs, ys, x, y, hqx, hqy, hx, hy⟩ := hg
    obtain ⟨its, rv, p, _⟩ := seqB I hqx
    obtain ⟨its2, rv2, p2, _⟩ := seqB I hqy
    obtain ⟨u, hu, ru⟩ := rv.get hx
    obtain ⟨v, hv, rv'⟩ := rv2.get hy
    have lt : ∀ {l : List Value} {v : Value}, l[i]? = some v → i < l.toArray.size := fun {l v} e => by
      rw [List.size_toArray]
      rcases Nat.lt_or_ge i l.length with h | h
      · exact h
      · rw [List.getElem?_eq_none h] at e
        cases e
    have hi1 := lt hu
    have hi2 := lt hv
    have hzl : zz < s.heap.objs.size := Heap.lt_size hz
    have hh : X.A.handled = none := I.ok.hd hc
    refine wpAny_pyNext_zipD2_item D.S (drawsB k (by exact hh) i1 a D.ai its.toArray) (drawsB l (by exact hh) i2 b D.bi its2.toArray) hz hTI hTO ⟨h1, p⟩ ⟨h2, p2⟩ hi1 hi2 fun u1 u2 h' tk y1 y2 z' TO' h1' h2' hT hsz hk => ?_
    have hu1 : u1 = u := by
      have y1' : its[i]? = some u1 := by simpa using y1
      rw [hu] at y1'
      exact (Option.some.inj y1').symm
    subst hu1
    have hu2 : u2 = v := by
      have y2' : its2[i]? = some u2 := by simpa using y2
      rw [hv] at y2'
      exact (Option.some.inj y2').symm
    subst hu2
    refine ⟨_, rfl, wpAny_letOwnedTupleGo_zip (s := { s with heap := h', toks := tk }) z' fun h'' z'' sb => ?_⟩
    have hT2 : h''.get? s.heap.objs.size = some { cls := .type "tuple", data := .seq #[u1, u2] } := (sb.2 _ (Nat.ne_of_gt hzl)).trans hT
    have new : ObjOk X.prog X.w (upd H s.heap.objs.size (.tup [x, y])) h'' s.heap.objs.size (.tup [x, y]) :=
      ⟨by show 2 ≤ sizeLine; decide, [u1, u2], .cons ru (.cons rv' .nil), ⟨_, hT2, rfl, _, rfl⟩⟩
    have I1 : Inv X pins σ (upd H s.heap.objs.size (.tup [x, y])) { s with heap := h'', toks := tk } :=
      I.turnedNew (ch := [zz, TI, TO, i1, i2]) (fun c o hb q => (sb.2 c (fun q' => hb (by simp [q']))).trans (hk c o (fun q' => hb (by simp [q'])) (fun q' => hb (by simp [q'])) (fun q' => hb (by simp [q'])) (fun q' => hb (by simp [q'])) q)) hf (Nat.le_refl _) new
    refine ⟨.ref s.heap.objs.size, _, I1, rfl, ⟨_, x, y, rfl, I.hok.fresh (Nat.le_refl _), rfl, fun l hl => ?_, fun l hl => ?_⟩, ⟨z'', ?_, ⟨u1, u2, ?_⟩, ?_, ?_⟩, fun c hcm => ?_⟩
    · rw [seqB_inj I hl hqx]
      exact hx
    · rw [seqB_inj I hl hqy]
      exact hy
    · exact (sb.2 _ D.S.TIz).trans (hk _ _ D.S.TIz D.S.TITO D.S.TIi1 D.S.TIi2 hTI)
    · exact (sb.2 _ D.S.TOz).trans TO'
    · exact h1'.1.at fun o q => (sb.2 _ (Ne.symm D.S.zi1)).trans q
    · exact h2'.1.at fun o q => (sb.2 _ (Ne.symm D.S.zi2)).trans q
    · have hlt : c < s.heap.objs.size := by
        have e' : c = zz ∨ c = TI ∨ c = TO ∨ c = i1 ∨ c = i2 := by simpa using hcm
        rcases e' with q | q | q | q | q
        · rw [q]; exact hzl
        · rw [q]; exact Heap.lt_size hTI
        · rw [q]; exact Heap.lt_size hTO
        · rw [q]; obtain ⟨_, e1, _⟩ := h1.ob; exact Heap.lt_size e1
        · rw [q]; obtain ⟨_, e2, _⟩ := h2.ob; exact Heap.lt_size e2
      rw [upd_ne (Nat.ne_of_lt hlt)]
      exact (hf c hcm).1
  done := by
    intro X hP hw hK hc i pins s σ H E I hf st hg
    subst hP hw hK
    obtain ⟨hz, hTI, ⟨x0, y0, hTO⟩, h1, h2⟩ := st
    obtain ⟨xs, ys, hqx, hqy, l3, l4, he⟩ := hg
    obtain ⟨its, rv, p, _⟩ := seqB I hqx
    obtain ⟨its2, rv2, p2, _⟩ := seqB I hqy
    have l1 := rv.length
    have l2 := rv2.length
    have hh : X.A.handled = none := I.ok.hd hc
    exact wpAny_pyNext_zipD2_end D.S (drawsB k (by exact hh) i1 a D.ai its.toArray) (drawsB l (by exact hh) i2 b D.bi its2.toArray) hz hTI hTO ⟨h1, p⟩ ⟨h2, p2⟩ (by rw [List.size_toArray]; omega) (by rw [List.size_toArray]; omega) (by rw [List.size_toArray, List.size_toArray]; omega) fun h' tk hk => ⟨rfl, I.turnedL (ch := [zz, TI, TO, i1, i2]) (fun c o hb q =>
      hk c o (fun q' => hb (by simp [q'])) (fun q' => hb (by simp [q'])) (fun q' => hb (by simp [q'])) (fun q' => hb (by simp [q'])) q) hf⟩
  self := fun A i s Q E st h => wpAny_pyIter_zip st.1 h
theorem zipB_of {n a b : Nat} (la : a < n) (lb : b < n) : ZipB (n + 4) (n + 2) (n + 3) n (n + 1) a b := by
  have mem2 : ∀ {x u v : Nat}, x ≠ u → x ≠ v → x ∉ ([u, v] : List Nat) := fun h1 h2 h => by
    simp only [List.mem_cons, List.not_mem_nil, or_false] at h
    exact h.elim h1 h2
  exact ⟨⟨by show n + 2 ≠ n + 4; omega, by show n + 3 ≠ n + 4; omega, by show n + 2 ≠ n + 3; omega, by show n + 2 ≠ n; omega, List.mem_cons_self, mem2 (by omega) (by omega), mem2 (by omega) (by omega),
    by show n + 2 ≠ n + 1; omega, List.mem_cons_self, mem2 (by omega) (by omega), mem2 (by omega) (by omega), mem2 (by omega) (by omega), mem2 (by omega) (by omega)⟩, by show a ≠ n; omega, by show b ≠ n + 1; omega⟩
def iZip2 (K : PySem.W.Frag) (ta : TA) : TI := fun σ H R => ta σ H fun vs H1 => ∃ k l a b xs ys, vs = [.ref a, .ref b] ∧ SqB k K H1 a xs ∧ SqB l K H1 b ys ∧ R (Itz2 k l K a b) H1
theorem pi_zip2 {X : Cx} {e e2 : Expr} {ta : TA} {p pos tpos : Pos} {elts : List Expr} {kk : Nat} (hg : Gl X "zip") (hm : X.mg "zip" = none) (ha : PA X [e, e2] ta)
    (hs : starEach [e, e2] X.env = (false, eval e X.env) :: starEach [e2] X.env := by rfl) (hpl : (backTo pos (starEach [e2] X.env)).any (·.1) = false := by rfl) :
    PI X (.Tuple elts kk tpos) (.Call (.Name "zip" p) [e, e2] [] pos) (iZip2 X.K ta) := by
  refine ⟨fun pins s σ H R I h => ?_⟩
  refine Call_ (ld_blt I hg hm PyProof.Rows.boot_zip (PyProof.Rows.callWith_type1 (thn (ha.run pos pins s σ H _ I h) fun us s1 ⟨vs, H1, I1, r1, q1⟩ => ?_) hs hpl))
  obtain ⟨k, l, a, b, xs, ys, ex, hqx, hqy, q⟩ := q1
  subst ex
  obtain ⟨u1, u2, rfl, r, r'⟩ := vals2 r1
  obtain rfl : u1 = Value.ref a := r
  obtain rfl : u2 = Value.ref b := r'
  have fresh5 : ∀ c, c ∈ [s1.heap.objs.size + 4, s1.heap.objs.size + 2, s1.heap.objs.size + 3, s1.heap.objs.size, s1.heap.objs.size + 1] → FpOk X pins H1 c := fun c hcm => by
    have e' : c = s1.heap.objs.size + 4 ∨ c = s1.heap.objs.size + 2 ∨ c = s1.heap.objs.size + 3 ∨ c = s1.heap.objs.size ∨ c = s1.heap.objs.size + 1 := by simpa using hcm
    have hle : s1.heap.objs.size ≤ c := by
      rcases e' with z | z | z | z | z
      · rw [z]; exact Nat.le_add_right _ _
      · rw [z]; exact Nat.le_add_right _ _
      · rw [z]; exact Nat.le_add_right _ _
      · rw [z]; exact Nat.le_refl _
      · rw [z]; exact Nat.le_add_right _ _
    exact I1.fpOk hle (I1.hok.fresh hle)
  obtain ⟨its, rv, p1, _⟩ := seqB I1 hqx
  obtain ⟨its2, rv2, p2, _⟩ := seqB I1 hqy
  refine zip_begins2 (beginsB k a its.toArray) (beginsB l b its2.toArray) p1 p2 fun h' hz hTI hTO h1 h2 hsz hk => wpAny_pyIter_zip hz ?_
  have I2 : Inv X pins σ H1 { s1 with heap := h' } := I1.kept (t' := s1.toks) hk
  have D := zipB_of (n := s1.heap.objs.size) p1.lt p2.lt
  exact ⟨s1.heap.objs.size + 4, [s1.heap.objs.size + 4, s1.heap.objs.size + 2, s1.heap.objs.size + 3, s1.heap.objs.size, s1.heap.objs.size + 1], _, _, H1, rfl, I2, turn_zip2 k l D, ⟨hz, hTI, ⟨_, _, hTO⟩, IterB.start h1, IterB.start h2⟩, fresh5, q⟩
theorem walk_zip2 {K : PySem.W.Frag} {k l : Bool} {a b : Addr} {xs ys : List V} (hl : xs.length = ys.length) : Walk (Itz2 k l K a b) xs.length (fun H => SqB k K H a xs ∧ SqB l K H b ys)
    (YPair (fun i => xs[i]?) (fun i => ys[i]?)) := by
  refine ⟨fun i H hi q => ⟨xs, ys, xs[i], ys[i], q.1, q.2, by simp [hi], by simp [show i < ys.length by omega]⟩, fun _ q => ⟨xs, ys, q.1, q.2, by omega, by omega, .inl rfl⟩, fun i H x H' _ q ⟨T, y, c, h1, h2, h3, h4, h5⟩ => ⟨T, _, _, h1, h2, h3, h4 xs q.1, h5 ys q.2⟩⟩
end L2
namespace L2
open PySem PySem.Spec PyProof.Rows
section
variable {X : Cx} {pins : List (Addr × Obj)} {σ : St} {H : Hp} {s : Shared} {C : Addr} {k : Nat} {sp : Sp}
def rCmpA (K : PySem.W.Frag) (C : Addr) (sp : Sp) : R2 := fun x y H Q => ∃ a dx fs t, x = .ref a ∧ H a = some (.ins C dx fs) ∧ (TyOf K H y t ∨ ∃ b xs, y = .ref b ∧ SqT K H b xs ∧ t = .type "tuple") ∧ PySem.W.notFirst K C t = true ∧ sp [x, y] H Q E0
theorem tup_looks {M : Model} {b : Addr} {xs : List V} (I : Inv X pins σ H s) (h : SqT X.K H b xs) : PySem.W.Looks M s.heap (typeOf (.ref b)) (.type "tuple") := by
  obtain ⟨its, r, p, _⟩ := I.tuple h
  obtain ⟨o, h1, h2, _⟩ := p
  exact h2 ▸ (PySem.W.Looks.ld h1).andThen .now
theorem op_cmpA {op : CmpOp} (G : Kop X.prog X.w X.K X.mg X.base C k (cmpInfo op).2.1 ["self", "other"] sp) (hr : Room k X.A)
    (ho : ∀ u v, compareOp op u v = richCompare op u v := by intros; rfl) (hx : Passes CX0 X E0 := by exact pass0) : OpR X (compareOp op) (rCmpA X.K C sp) := by
  obtain ⟨f, fd, hs, hf, hb, F⟩ := G
  intro pins s σ H x y v u Q I rx ry h
  obtain ⟨a, dx, fs, t, rfl, ha, ty, nf, q⟩ := h
  cases (show v = Value.ref a from rx)
  obtain ⟨od, J⟩ := ins_at I ha
  obtain ⟨m, hF⟩ := I.fr
  rw [ho]
  rcases ty with ty | ⟨b, xs, rfl, hb', rfl⟩
  · exact PySem.W.cmp_K hr.units0 hF I.ok.mod.kin J (ty_looks I ry ty) nf hs hf (run_op F hr hb I (us := [.ref a, u]) (vs := [.ref a, y]) (.cons rfl (.cons ry .nil)) q hx)
  · cases (show u = Value.ref b from ry)
    exact PySem.W.cmp_K hr.units0 hF I.ok.mod.kin J (tup_looks I hb') nf hs hf (run_op F hr hb I (us := [.ref a, .ref b]) (vs := [.ref a, .ref b]) (.cons rfl (.cons rfl .nil)) q hx)
end
end L2
namespace KG
open PySem L2
abbrev s_eq : Stmt := inClass (top 43) 16
abbrev n_eq : List Str := ["self", "other"]
theorem sc_eq : FnScope n_eq ["self", "other"] (defScope s_eq) :=
  ⟨rfl, rfl, rfl, by decide +kernel, rfl, by decide +kernel, by decide +kernel⟩
abbrev s_period : Stmt := inClass (top 43) 5
abbrev n_period : List Str := ["self"]
theorem sc_period : FnScope n_period ["self"] (defScope s_period) :=
  ⟨rfl, rfl, rfl, by decide +kernel, rfl, by decide +kernel, by decide +kernel⟩
/-- equality of growths -/
structure TxE (K : PySem.W.Frag) (mg : Str → Option Value) : Prop where
  G : TxG K mg
  iC : PySem.W.findIn K (.ref (gC mg)) "__class__" = some (some (.builtin "object.__class__"))
  iG : PySem.W.specialIn K (.builtin "object.__class__") "__get__" = some (some (.builtin "getset_descriptor.__get__"))
  iT : PySem.W.takesIn K (.builtin "object.__class__") = some true
  iM : PySem.W.mroIn K (gC mg) (.type "object") = some true
  kC : PySem.W.kitOne K (.ref (gC mg)) (.ref (gC mg)) = some true
  kT : ∀ t ∈ (["int", "str", "tuple"] : List String), PySem.W.kitOne K (.type t) (.ref (gC mg)) = some false
  kI : PySem.W.kitOne K (.ref (gC mg)) (.type "int") = some false
  nF : PySem.W.notFirst K (gC mg) (.ref (gC mg)) = true
  nT : ∀ t ∈ (["int", "str", "tuple"] : List String), PySem.W.notFirst K (gC mg) (.type t) = true
  pl : Plain K (gC mg)
  ne : PySem.W.findIn K (.ref (gC mg)) "__ne__" = some (some (.builtin "object.__ne__"))
  eq : ∃ f fd, PySem.W.findIn K (.ref (gC mg)) "__eq__" = some (some (.ref f)) ∧ PySem.W.isFn K (.ref f) = true ∧ MD K "__eq__" "Growth.__eq__" s_eq [] f fd ∧ Binds K fd ["self", "other"] []
  per : ∃ p g fd, PropOf K (gC mg) "period" p g ∧ MD K "period" "Growth.period" s_period [] g fd ∧ Binds K fd ["self"] []
section
variable {P : Program} {w : World} {K : PySem.W.Frag} {mg : Str → Option Value} {base : Heap}
def oD : Option Int → PyData
  | none => .none
  | some i => .int i
theorem dp_opts {H : Hp} : ∀ ts : List (Option Int), DpAll K H (ts.map vO) (ts.map oD)
  | [] => .nil
  | none :: ts => .cons .non (dp_opts ts)
  | some i :: ts => .cons (.int i) (dp_opts ts)
theorem opts_lay : ∀ ts : List (Option Int), PyData.canLayAll0 (ts.map oD) = true
  | [] => by simp [PyData.canLayAll0]
  | none :: ts => by simp [PyData.canLayAll0, PyData.canLay0, oD, opts_lay ts]
  | some i :: ts => by simp [PyData.canLayAll0, PyData.canLay0, oD, opts_lay ts]
theorem opts_dep : ∀ ts : List (Option Int), PyData.depthAll (ts.map oD) ≤ 1
  | [] => by simp [PyData.depthAll]
  | none :: ts => by
    have := opts_dep ts
    simp [PyData.depthAll, PyData.depth, oD]
    omega
  | some i :: ts => by
    have := opts_dep ts
    simp [PyData.depthAll, PyData.depth, oD]
    omega
theorem shaped_optsT (ts : List (Option Int)) : SeqAt.shaped (.tuple (ts.map oD)) = true := by
  have := opts_dep ts
  unfold SeqAt.shaped
  simp [PyData.canLay0, PyData.depth, opts_lay]
  omega
theorem eqv_optsA : ∀ ts us : List (Option Int), PyData.eqvAll (ts.map oD) (us.map oD) = decide (ts = us)
  | [], [] => by simp [PyData.eqvAll]
  | [], _ :: _ => by simp [PyData.eqvAll]
  | _ :: _, [] => by simp [PyData.eqvAll]
  | a :: r, b :: t => by
    simp only [List.map_cons, PyData.eqvAll, eqv_optsA r t]
    cases a <;> cases b <;> simp [oD, PyData.eqv]
    rename_i x y
    by_cases h : x = y <;> by_cases h' : r = t <;> simp [h, h']
theorem eqv_optsT (ts us : List (Option Int)) : PyData.eqv (.tuple (ts.map oD)) (.tuple (us.map oD)) = decide (ts = us) := by
  simp only [PyData.eqv, eqv_optsA]
theorem ints_opts (gs : List Int) : gs.map PyData.int = (gs.map some).map oD := by
  rw [List.map_map]
  rfl
theorem shaped_intsT (gs : List Int) : SeqAt.shaped (.tuple (gs.map PyData.int)) = true := by
  rw [ints_opts]
  exact shaped_optsT _
theorem eqv_intsT (gs hs : List Int) : PyData.eqv (.tuple (gs.map PyData.int)) (.tuple (hs.map PyData.int)) = decide (gs = hs) := by
  simp only [PyData.eqv, PySem.W.ked_eqvAll]
def spEqG (K : PySem.W.Frag) (C : Addr) : Sp := fun vs H Q _ => (∃ (x y : Addr) (T T' : List (Option Int)) (G G' : List Int), vs = [.ref x, .ref y] ∧ GrowAt K C H x T G ∧ GrowAt K C H y T' G' ∧
  Q (.bl (decide (T = T' ∧ G = G'))) H) ∨ ∃ (x : Addr) (v : V) (T : List (Option Int)) (G : List Int) (t : String), vs = [.ref x, v] ∧ GrowAt K C H x T G ∧ TyX K H v (.type t) ∧ t ∈ (["int", "str", "tuple"] : List String) ∧ Q (.bl false) H
theorem ka_eq (TE : TxE K mg) : Kop P w K mg base (gC mg) 2 "__eq__" ["self", "other"] (spEqG K (gC mg)) := by
  have TG := TE.G
  have T := TG.T
  obtain ⟨f, fd, h1, h2, F, b⟩ := TE.eq
  refine ⟨f, fd, h1, h2, b, F.okM sc_eq (fun vs H Q E h => ?_) (fun f cdv A outer s H vs Q E hA hr h => ?_)⟩
  · rcases h with ⟨x, y, _, _, _, _, rfl, _⟩ | ⟨x, v, _, _, _, rfl, _⟩ <;> rfl
  · refine ⟨_, (pss_one (ps_ret ((pe_and (pe_callB call_isi (by rfl) (T.nb _ (by decide)) (by decide +kernel) (pa_cons (pv 1) (pa_cons (pe_glob (v := .ref (gC mg)) rfl TG.mgC rfl) pa_nil))) (pe_and (pe_cmpR (op_eqD hr.units : OpR _ _ (rEqD K)) (pe_fld (pv 0) rfl) (pe_fld (pv 1) rfl) (nomark _)) (pe_one (pe_cmpR (op_eqD hr.units : OpR _ _ (rEqD K)) (pe_fld (pv 0) rfl) (pe_fld (pv 1) rfl) (nomark _)))))))), ?_⟩
    rcases h with ⟨x, y, t1, t2, g1, g2, rfl, cx, cy, k⟩ | ⟨x, v, t1, g1, t, rfl, cx, ty, ht, k⟩
    · obtain ⟨dx, a1, b1, c1, c2, c3⟩ := id cx
      obtain ⟨dy, a2, b2, e1, e2, e3⟩ := id cy
      refine ⟨_, rfl, .ref y, _, _, _, true, rfl, .own _, .base (.ins e1 TG.cls TE.iC TE.iG TE.iT TE.iM), TE.kC, _, rfl, iteT ?_⟩
      refine ⟨_, rfl, x, _, dx, _, _, rfl, c1, TG.cls, TG.nT, rfl, _, rfl, y, _, dy, _, _, rfl, e1, TG.cls, TG.nT, rfl, ?_⟩
      refine ⟨_, _, .tup c2 (dp_opts t1), .tup e2 (dp_opts t2), shaped_optsT t1, shaped_optsT t2, _, rfl, ?_⟩
      rw [eqv_optsT]
      by_cases z : t1 = t2
      rotate_left
      · rw [decide_eq_false (fun y => z y.1)] at k
        rw [decide_eq_false z]
        exact iteF k
      rw [decide_eq_true z]
      refine iteT ?_
      refine ⟨_, rfl, x, _, dx, _, _, rfl, c1, TG.cls, TG.nG, rfl, _, rfl, y, _, dy, _, _, rfl, e1, TG.cls, TG.nG, rfl, ?_⟩
      refine ⟨_, _, .tup c3 (dp_ints g1), .tup e3 (dp_ints g2), shaped_intsT g1, shaped_intsT g2, ?_⟩
      rw [eqv_intsT]
      have : decide (g1 = g2) = decide (t1 = t2 ∧ g1 = g2) := by
        simp [z]
      rw [this]
      exact k
    · exact ⟨_, rfl, v, _, _, _, false, rfl, .own _, ty, TE.kT t ht, _, rfl, iteF k⟩
def spPer1 (K : PySem.W.Frag) (C : Addr) : Sp := fun vs H Q _ => ∃ (x : Addr) (T : List (Option Int)) (G : List Int), vs = [.ref x] ∧ GrowAt K C H x T G ∧ Q (.int G.length) H
theorem kp_period (TE : TxE K mg) : Kpr P w K mg base (gC mg) 2 "period" (spPer1 K (gC mg)) := by
  have TG := TE.G
  have T := TG.T
  obtain ⟨p, g, fd, Pf, F, b0⟩ := TE.per
  refine ⟨p, g, fd, Pf, b0, F.okM sc_period (fun vs H Q E h => ?_) (fun f cdv A outer s H vs Q E hA hr h => ?_)⟩
  · obtain ⟨x, t, g, rfl, _⟩ := h
    rfl
  · obtain ⟨x, t, g, rfl, cx, k⟩ := h
    refine ⟨_, (pss_one (ps_ret (pe_callB call_len (by rfl) (T.nb _ (by decide)) PySem.boot_len (pa_cons (pe_fld (pv 0) rfl) pa_nil)))), ?_⟩
    obtain ⟨dx, a1, b1, c1, c2, c3⟩ := id cx
    rw [← List.length_map (f := V.int)] at k
    exact ⟨_, rfl, x, _, dx, _, _, rfl, c1, TG.cls, TG.nG, rfl, _, _, rfl, SqS.len (.inr c3), k⟩
end
end KG
namespace L2
open PySem PySem.Spec PyProof.Rows
def rLcm : List V → Hp → VK → Prop := fun vs H Q => ∃ a b : Int, vs = [.int a, .int b] ∧ a.natAbs < 2 ^ 64 ∧ b.natAbs < 2 ^ 64 ∧ Q (.int ((Nat.lcm a.natAbs b.natAbs : Nat) : Int)) H
theorem cr_lcm {X : Cx} : CallR X (.builtin "math.lcm") rLcm := by
  intro pins s σ H vs us Q I r h
  obtain ⟨a, b, rfl, h1, h2, q⟩ := h
  obtain ⟨t, u, rfl⟩ := Vals.int2 r
  exact PySem.W.mc_lcm h1 h2 fun _ => ⟨.int _, H, I.tok _, ⟨_, rfl⟩, q⟩
end L2
namespace KG
open PySem L2
section
variable {P : Program} {w : World} {K : PySem.W.Frag} {mg : Str → Option Value} {base : Heap}
def spIsIntO (K : PySem.W.Frag) (C : Addr) : Sp := fun vs H Q _ => ∃ (x : Addr) (T : List (Option Int)) (G : List Int), vs = [.ref x] ∧ GrowAt K C H x T G ∧ Q (.bl false) H
theorem kp_is_integerO (TE : TxE K mg) : Kf P w K mg base 1 "is_integer" ["value"] (spIsIntO K (gC mg)) := by
  have TG := TE.G
  have T := TG.T
  refine T.d_isint.okF sc_isint (fun vs H Q E h => ?_) (fun f cdv A outer s H vs Q E hA hr h => ?_)
  · obtain ⟨x, t, g, rfl, _⟩ := h
    rfl
  · obtain ⟨x, t, g, rfl, cx, k⟩ := h
    obtain ⟨dx, a1, b1, c1, c2, c3⟩ := id cx
    refine ⟨_, (pss_one (ps_ret ((pe_and (pe_callB call_isi (by rfl) (T.nb _ (by decide)) (by decide +kernel) (pa_cons (pv 0) (pa_cons (pe_bltn (v := .ty "int") (by rfl) (T.nb _ (by decide)) (by decide +kernel) rfl) pa_nil))) (pe_one (pe_not (pe_callB call_isi (by rfl) (T.nb _ (by decide)) (by decide +kernel) (pa_cons (pv 0) (pa_cons (pe_bltn (v := .ty "bool") (by rfl) (T.nb _ (by decide)) (by decide +kernel) rfl) pa_nil))))))))), ?_⟩
    exact ⟨_, rfl, .ref x, _, _, _, false, rfl, .ty "int", .base (.ins c1 TG.cls TE.iC TE.iG TE.iT TE.iM), TE.kI, _, rfl, iteF k⟩
def spVals (K : PySem.W.Frag) (C : Addr) : Sp := fun vs H Q _ => ∃ (x : Addr) (n : Nat) (T : List (Option Int)) (G : List Int), vs = [.ref x, .int n] ∧ GrowAt K C H x T G ∧ n ≤ T.length ∧
  ∀ (b : Addr) (H' : Hp), Same H H' → SqT K H' b ((T.take n).map vO) → Q (.ref b) H'
theorem kp_values (TG : TxG K mg) : Kf P w K mg base 1 "values_to" ["growth", "length"] (spVals K (gC mg)) := by
  have T := TG.T
  refine T.d_valuesto.okF sc_valuesto (fun vs H Q E h => ?_) (fun f cdv A outer s H vs Q E hA hr h => ?_)
  · obtain ⟨x, n, t, g, rfl, _⟩ := h
    rfl
  · obtain ⟨x, n, t, g, rfl, cx, hn, k⟩ := h
    obtain ⟨dx, a1, b1, c1, c2, c3⟩ := id cx
    refine ⟨_, (pss_cons (ps_asg (pe_tup (pa_cons (pe_fld (pv 0) rfl) (pa_cons (pe_callB call_len (by rfl) (T.nb _ (by decide)) PySem.boot_len (pa_cons (pe_fld (pv 0) rfl) pa_nil)) pa_nil))) (pg_tup rfl (pgs_cons (pg_name (i := 2) sc_valuesto.nd rfl (Or.inr rfl)) (pgs_cons (pg_name (i := 3) sc_valuesto.nd rfl (Or.inr rfl)) pgs_nil))))
 (pss_cons (ps_if (pt_cmpR op_le (pv 1) (pe_callB call_len (by rfl) (T.nb _ (by decide)) PySem.boot_len (pa_cons (pv 2) pa_nil)) (nomark _))
 (pss_one (ps_ret (pe_slice (sl_seq : SlR _ (rSlQ K)) (pv 2) po_none (po_some (pv 1))))) pss_nil)
 pss_no)), ?_⟩
    refine ⟨_, rfl, x, _, dx, _, _, rfl, c1, TG.cls, TG.nT, rfl, _, rfl, x, _, dx, _, _, rfl, c1, TG.cls, TG.nG, rfl, _, _, rfl, SqS.len (.inr c3), (by show 2 ≤ sizeLine; decide), fun z hz => ?_⟩
    have s1 : Same H (upd H z (.tup [.ref a1, .int ((g.map V.int).length : Nat)])) := Same.new hz
    have gz : upd H z (.tup [.ref a1, .int ((g.map V.int).length : Nat)]) z = some (.tup [.ref a1, .int ((g.map V.int).length : Nat)]) := upd_same
    generalize upd H z (.tup [.ref a1, .int ((g.map V.int).length : Nat)]) = H1 at s1 gz
    have c2' := SqT.new2 c2 s1
    refine ⟨z, _, rfl, SqT.of gz, rfl, _, _, rfl, _, _, rfl, rfl, ?_⟩
    refine ⟨_, rfl, _, rfl, _, _, rfl, SqS.len (.inr c2'), _, _, rfl, rfl, _, rfl, ?_⟩
    rw [show decide ((n : Int) ≤ (((t.map vO).length : Nat) : Int)) = true from decide_eq_true (by rw [List.length_map]; omega)]
    refine iteT ?_
    refine ⟨_, rfl, _, rfl, _, rfl, false, a1, _, rfl, c2', fun b H2 s2 hb => ?_⟩
    rw [cut_to, ← List.map_take] at hb
    exact k b H2 (s1.trans s2) hb
def spGainO (K : PySem.W.Frag) (C : Addr) : Sp := fun vs H Q _ => ∃ (x : Addr) (n m : Nat) (T : List (Option Int)) (G : List Int), vs = [.ref x, .int n, .int m] ∧ GrowAt K C H x T G ∧ 1 ≤ G.length ∧ G.length ≤ 1000 ∧ m ≤ 100000 ∧
  Q (.int (sv G (n % G.length) * ((m / G.length : Nat) : Int))) H
theorem kp_gainO (TG : TxG K mg) : Kf P w K mg base 1 "gain_over" ["growth", "n", "many"] (spGainO K (gC mg)) := by
  have T := TG.T
  refine T.d_gainover.okF sc_gainover (fun vs H Q E h => ?_) (fun f cdv A outer s H vs Q E hA hr h => ?_)
  · obtain ⟨x, n, m, t, g, rfl, _⟩ := h
    rfl
  · obtain ⟨x, n, m, t, g, rfl, cx, g1, g2, m1, k⟩ := h
    obtain ⟨dx, a1, b1, c1, c2, c3⟩ := id cx
    refine ⟨_, (pss_cons (ps_set (i := 3) sc_gainover.nd rfl (Or.inl rfl) (pe_callB call_len (by rfl) (T.nb _ (by decide)) PySem.boot_len (pa_cons (pe_fld (pv 0) rfl) pa_nil)))
 (pss_one (ps_ret (pe_op op_mulW' (pe_ix (ix_tup : IxR _ (rIxT K)) (pe_fld (pv 0) rfl) (pe_op op_modN (pv 1) (pv 3)) (fun _ _ => rfl)) (pe_op op_divW (pv 2) (pv 3)))))), ?_⟩
    refine ⟨_, rfl, x, _, dx, _, _, rfl, c1, TG.cls, TG.nG, rfl, _, _, rfl, SqS.len (.inr c3), ?_⟩
    rw [List.length_map]
    refine ⟨_, rfl, x, _, dx, _, _, rfl, c1, TG.cls, TG.nG, rfl, _, rfl, _, rfl, _, _, rfl, rfl, by omega, ?_⟩
    have em : ((n : Int)).fmod (g.length : Int) = ((n % g.length : Nat) : Int) := by
      rw [Int.fmod_eq_emod_of_nonneg _ (by omega)]
      rfl
    refine ⟨_, _, _, _, rfl, rfl, c3, at_sv em (Nat.mod_lt _ (by omega)), ?_⟩
    refine ⟨_, rfl, _, rfl, _, _, rfl, rfl, by omega, by omega, fun q r e r0 r1 => ?_⟩
    have eq := div_q e r0 r1
    subst eq
    have : m / g.length ≤ m := Nat.div_le_self _ _
    refine ⟨_, _, rfl, rfl, .inr ⟨Int.lt_of_lt_of_le (by decide) (Int.natCast_nonneg _), Int.lt_of_le_of_lt (Int.ofNat_le.mpr (Nat.le_trans this m1)) (by decide)⟩, fun z hz => ?_⟩
    subst hz
    exact k
def spCom (K : PySem.W.Frag) (C : Addr) : Sp := fun vs H Q _ => ∃ (x y : Addr) (T T' : List (Option Int)) (G G' : List Int), vs = [.ref x, .ref y] ∧ GrowAt K C H x T G ∧ GrowAt K C H y T' G' ∧ G.length ≤ 1000 ∧ G'.length ≤ 1000 ∧
  Q (.int ((Nat.lcm G.length G'.length : Nat) : Int)) H
theorem kp_comper (TG : TxG K mg) (hl : mg "lcm" = some (.builtin "math.lcm")) : Kf P w K mg base 1 "common_period" ["one", "other"] (spCom K (gC mg)) := by
  have T := TG.T
  refine T.d_comper.okF sc_comper (fun vs H Q E h => ?_) (fun f cdv A outer s H vs Q E hA hr h => ?_)
  · obtain ⟨x, y, t, t', g, g', rfl, _⟩ := h
    rfl
  · obtain ⟨x, y, t, t', g, g', rfl, cx, cy, g1, g2, k⟩ := h
    obtain ⟨dx, a1, b1, c1, c2, c3⟩ := id cx
    obtain ⟨dy, a2, b2, e1, e2, e3⟩ := id cy
    refine ⟨_, (pss_one (ps_ret (pe_callBfun cr_lcm (by rfl) hl (pa_cons (pe_callB call_len (by rfl) (T.nb _ (by decide)) PySem.boot_len (pa_cons (pe_fld (pv 0) rfl) pa_nil)) (pa_cons (pe_callB call_len (by rfl) (T.nb _ (by decide)) PySem.boot_len (pa_cons (pe_fld (pv 1) rfl) pa_nil)) pa_nil))))), ?_⟩
    refine ⟨_, rfl, x, _, dx, _, _, rfl, c1, TG.cls, TG.nG, rfl, _, _, rfl, SqS.len (.inr c3), _, rfl, y, _, dy, _, _, rfl, e1, TG.cls, TG.nG, rfl, _, _, rfl, SqS.len (.inr e3), ?_⟩
    refine ⟨_, _, rfl, ?_, ?_, ?_⟩
    · rw [List.length_map, Int.natAbs_natCast]
      exact Nat.lt_of_le_of_lt g1 (by decide)
    · rw [List.length_map, Int.natAbs_natCast]
      exact Nat.lt_of_le_of_lt g2 (by decide)
    · rw [List.length_map, List.length_map, Int.natAbs_natCast, Int.natAbs_natCast]
      exact k
def spComB (K : PySem.W.Frag) (C : Addr) : Sp := fun vs H Q _ => ∃ (x y : Addr) (T T' : List (Option Int)) (G G' : List Int), vs = [.ref x, .ref y] ∧ GrowAt K C H x T G ∧ GrowAt K C H y T' G' ∧ G.length ≤ T.length ∧ G'.length ≤ T'.length ∧
  Q (.int ((max (T.length - G.length) (T'.length - G'.length) : Nat) : Int)) H
theorem kp_combeg (TG : TxG K mg) : Kf P w K mg base 1 "common_begin" ["one", "other"] (spComB K (gC mg)) := by
  have T := TG.T
  refine T.d_combeg.okF sc_combeg (fun vs H Q E h => ?_) (fun f cdv A outer s H vs Q E hA hr h => ?_)
  · obtain ⟨x, y, t, t', g, g', rfl, _⟩ := h
    rfl
  · obtain ⟨x, y, t, t', g, g', rfl, cx, cy, g1, g2, k⟩ := h
    obtain ⟨dx, a1, b1, c1, c2, c3⟩ := id cx
    obtain ⟨dy, a2, b2, e1, e2, e3⟩ := id cy
    refine ⟨_, (pss_one (ps_ret (pe_callB (call_max2 rfl) (by rfl) (T.nb _ (by decide)) (by decide +kernel) (pa_cons (pe_callTy call_intI (by rfl) (T.nb _ (by decide)) (by decide +kernel) (pa_cons (pe_op op_sub (pe_callB call_len (by rfl) (T.nb _ (by decide)) PySem.boot_len (pa_cons (pe_fld (pv 0) rfl) pa_nil)) (pe_callB call_len (by rfl) (T.nb _ (by decide)) PySem.boot_len (pa_cons (pe_fld (pv 0) rfl) pa_nil))) pa_nil)) (pa_cons (pe_op op_sub (pe_callB call_len (by rfl) (T.nb _ (by decide)) PySem.boot_len (pa_cons (pe_fld (pv 1) rfl) pa_nil)) (pe_callB call_len (by rfl) (T.nb _ (by decide)) PySem.boot_len (pa_cons (pe_fld (pv 1) rfl) pa_nil))) pa_nil))))), ?_⟩
    refine ⟨_, rfl, x, _, dx, _, _, rfl, c1, TG.cls, TG.nT, rfl, _, _, rfl, SqS.len (.inr c2), _, rfl, x, _, dx, _, _, rfl, c1, TG.cls, TG.nG, rfl, _, _, rfl, SqS.len (.inr c3), ?_⟩
    refine ⟨_, _, rfl, rfl, _, rfl, ?_⟩
    refine ⟨_, rfl, y, _, dy, _, _, rfl, e1, TG.cls, TG.nT, rfl, _, _, rfl, SqS.len (.inr e2), _, rfl, y, _, dy, _, _, rfl, e1, TG.cls, TG.nG, rfl, _, _, rfl, SqS.len (.inr e3), ?_⟩
    refine ⟨_, _, rfl, rfl, _, _, rfl, ?_⟩
    simp only [List.length_map] at k ⊢
    have : (if ((t'.length : Int) - (g'.length : Int)) > ((t.length : Int) - (g.length : Int)) then ((t'.length : Int) - (g'.length : Int)) else ((t.length : Int) - (g.length : Int))) = ((max (t.length - g.length) (t'.length - g'.length) : Nat) : Int) := by
      split <;> omega
    rw [this]
    exact k
end
end KG
namespace KG
open PySem L2
def addO : Option Int → Option Int → Option Int
  | some x, some y => some (x + y)
  | _, _ => none
def addT (T1 T2 : List (Option Int)) : List (Option Int) := (List.range T1.length).map fun i => addO (tv T1 i) (tv T2 i)
def addG (G1 G2 : List Int) : List Int := (List.range G1.length).map fun i => sv G1 i + sv G2 i
section
variable {P : Program} {w : World} {K : PySem.W.Frag} {mg : Str → Option Value} {base : Heap}
def spSum (K : PySem.W.Frag) (C : Addr) : Sp := fun vs H Q _ => ∃ (x y : Addr) (T1 T2 : List (Option Int)) (G1 G2 : List Int), vs = [.ref x, .ref y] ∧ GrowAt K C H x T1 G1 ∧ GrowAt K C H y T2 G2 ∧
  T1.length = T2.length ∧ G1.length = G2.length ∧ 1 ≤ G1.length ∧ G1.length ≤ 60 ∧ G1.length ≤ T1.length ∧ T1.length ≤ 4000 ∧
  ∀ (z a b : Addr) (H' : Hp), Same H H' → H' z = some (.tup [.ref a, .ref b]) → H' a = some (.lst ((addT T1 T2).map vO)) → H' b = some (.lst ((addG G1 G2).map V.int)) → Q (.ref z) H'
theorem kp_summed (TG : TxG K mg) (hl : mg "lcm" = some (.builtin "math.lcm")) : Kf P w K mg base 2 "summed" ["one", "other"] (spSum K (gC mg)) := by
  have T := TG.T
  refine T.d_summed.okF sc_summed (fun vs H Q E h => ?_) (fun f cdv A outer s H vs Q E hA hr h => ?_)
  · obtain ⟨x, y, t1, t2, g1, g2, rfl, _⟩ := h
    rfl
  · obtain ⟨x, y, t1, t2, g1, g2, rfl, cx, cy, lt, lg, p1, p2, p3, p4, k⟩ := h
    refine ⟨_, (pss_cons (ps_set (i := 2) sc_summed.nd rfl (Or.inr rfl) (pe_kf (kp_comper TG hl) hA hr (by rfl) (pa_cons (pv 0) (pa_cons (pv 1) pa_nil))))
 (pss_cons (ps_set (i := 3) sc_summed.nd rfl (Or.inl rfl) (pe_op op_add (pe_kf (kp_combeg TG) hA hr (by rfl) (pa_cons (pv 0) (pa_cons (pv 1) pa_nil))) (pv 2)))
 (pss_cons (ps_setLc (i := 4) (g := gTup K 2 (gCons (gName 5) (gCons (gName 6) gNil))) (own := [("first", 5), ("second", 6)]) (tt := tYes) rfl sc_summed.nd rfl rfl (sw_true rfl rfl rfl (by decide +kernel)) (pi_zip2 (by rfl) (T.nb _ (by decide)) (pa_cons (pe_kf (kp_values TG) hA hr (by rfl) (pa_cons (pv 0) (pa_cons (pv 3) pa_nil))) (pa_cons (pe_kf (kp_values TG) hA hr (by rfl) (pa_cons (pv 1) (pa_cons (pv 3) pa_nil))) pa_nil))) (blkOk_by (N := n_summed) (sc := defScope s_summed) (by decide +kernel)) (fun _ _ _ _ _ => pg_tup rfl (pgs_cons (pg_name (i := 5) sc_summed.nd rfl (Or.inl rfl)) (pgs_cons (pg_name (i := 6) sc_summed.nd rfl (Or.inl rfl)) pgs_nil))) (fun _ _ _ _ _ => pts_nil) (fun _ _ _ _ _ => (pe_ifExp (PW.pt (pw_or (pt_cmpR op_isN (pv 5) (pe_non) (nomark _)) (pw_or1 (pt_cmpR op_isN (pv 6) (pe_non) (nomark _))))) (pe_non) (pe_op op_add (pv 5) (pv 6)))))
 (pss_one (ps_ret (pe_tup (pa_cons (pv 4) (pa_cons (pe_lc (own := [("rest", 7)]) (g := gName 7) (tt := tYes) rfl sc_summed.nd (pi_range1 (by rfl) (T.nb _ (by decide)) (pa_cons (pv 2) pa_nil)) (blkOk_by (N := n_summed) (sc := defScope s_summed) (by decide +kernel)) (fun _ _ _ _ _ => pg_name (i := 7) sc_summed.nd rfl (Or.inl rfl)) (fun _ _ _ _ _ => pts_nil) (fun _ _ _ _ _ => (pe_op op_add (pe_kf (kp_gainO TG) hA hr (by rfl) (pa_cons (pv 0) (pa_cons (pv 7) (pa_cons (pv 2) pa_nil)))) (pe_kf (kp_gainO TG) hA hr (by rfl) (pa_cons (pv 1) (pa_cons (pv 7) (pa_cons (pv 2) pa_nil))))))) pa_nil)))))))), ?_⟩
    refine ⟨_, rfl, _, rfl, x, y, _, _, _, _, rfl, cx, cy, by omega, by omega, ?_⟩
    rw [← lg, Nat.lcm_self]
    refine ⟨_, rfl, _, rfl, x, y, _, _, _, _, rfl, cx, cy, by omega, by omega, _, rfl, _, _, rfl, rfl, ?_⟩
    rw [← lt, ← lg, Nat.max_self]
    have eL : ((t1.length - g1.length : Nat) : Int) + (g1.length : Int) = (t1.length : Int) := by omega
    dsimp only [tNext, tRet, tSeq, tAsg, gName, tLc, tCons, tCB]
    rw [eL]
    refine ⟨_, rfl, _, rfl, x, t1.length, t1, g1, rfl, cx, by omega, fun b1 H1 s1 hb1 => ?_⟩
    refine ⟨_, rfl, _, rfl, y, t1.length, t2, g2, rfl, cy.same s1, by omega, fun b2 H2 s2 hb2 => ?_⟩
    rw [List.take_of_length_le (by omega)] at hb1 hb2
    have hb1 := SqT.new2 hb1 s2
    have cx2 := cx.same (s1.trans s2)
    have cy2 := cy.same (s1.trans s2)
    refine ⟨false, false, b1, b2, _, _, rfl, hb1, hb2, ?_⟩
    intro D hD
    refine lc_it (walk_zip2 (k := false) (l := false) (a := b1) (b := b2) (xs := t1.map vO) (ys := t2.map vO) (by rw [List.length_map, List.length_map, lt]))
      (fun i H' => Same H2 H' ∧ H' D = some (.lst (((List.range i).map fun i => addO (tv t1 i) (tv t2 i)).map vO))) ⟨Same.new hD, upd_same⟩ (fun _ _ _ p => ⟨SqT.new2 hb1 p.1, SqT.new2 hb2 p.1⟩) ?_ ?_
    · rintro i xv B1 B2 hi ⟨sm, gD⟩ ⟨T1, u, v, rfl, hT, rfl, h1, h2⟩
      rw [List.length_map] at hi
      obtain rfl := tv_at h1
      obtain rfl := tv_at h2
      have sm2 : Same H2 (upd B1 T1 (.tup [vO (tv t1 i), vO (tv t2 i)])) := sm.trans (Same.new hT)
      have gD2 : upd B1 T1 (.tup [vO (tv t1 i), vO (tv t2 i)]) D = some (.lst (((List.range i).map fun i => addO (tv t1 i) (tv t2 i)).map vO)) := upd_new hT gD
      have gT : SqT K (upd B1 T1 (.tup [vO (tv t1 i), vO (tv t2 i)])) T1 [vO (tv t1 i), vO (tv t2 i)] := SqT.of upd_same
      generalize upd B1 T1 (.tup [vO (tv t1 i), vO (tv t2 i)]) = B2 at sm2 gD2 gT ⊢
      refine ⟨T1, _, rfl, gT, rfl, _, _, rfl, _, _, rfl, rfl, rfl, yes_run ?_⟩
      have app : ∀ o, o = addO (tv t1 i) (tv t2 i) → ∃ acc, B2 D = some (.lst acc) ∧ acc.length < sizeLine ∧ Same H2 (upd B2 D (.lst (acc ++ [vO o]))) ∧
          upd B2 D (.lst (acc ++ [vO o])) D = some (.lst (((List.range (i + 1)).map fun i => addO (tv t1 i) (tv t2 i)).map vO)) := fun o ho => by
        refine ⟨_, gD2, ?_, fun b o eb => upd_oth (fun z => by rw [z, hD] at eb; cases eb) (sm2 _ _ eb), ?_⟩
        · rw [List.length_map, List.length_map, List.length_range]
          exact Nat.lt_of_lt_of_le hi (Nat.le_trans p4 (by decide))
        · rw [upd_same, ho, List.range_succ, List.map_append, List.map_append]
          rfl
      cases e1 : tv t1 i with
      | none =>
        refine ⟨_, rfl, rfl, _, rfl, iteT ?_⟩
        exact app none (by rw [e1]; rfl)
      | some a1 =>
        cases e2 : tv t2 i with
        | none =>
          refine ⟨_, rfl, rfl, _, rfl, iteF ?_⟩
          refine ⟨_, rfl, rfl, _, rfl, iteT ?_⟩
          exact app none (by rw [e1, e2]; rfl)
        | some a2 =>
          refine ⟨_, rfl, rfl, _, rfl, iteF ?_⟩
          refine ⟨_, rfl, rfl, _, rfl, iteF ?_⟩
          refine ⟨_, rfl, _, rfl, _, _, rfl, rfl, ?_⟩
          exact app (some (a1 + a2)) (by rw [e1, e2]; rfl)
    · rintro B1 ⟨sm, gD⟩
      rw [List.length_map] at gD
      replace gD : B1 D = some (.lst ((addT t1 t2).map vO)) := gD
      have cx3 := cx2.same sm
      have cy3 := cy2.same sm
      refine ⟨_, rfl, ?_⟩
      refine ⟨_, rfl, _, rfl, by omega, by omega, fun D2 hD2 => ?_⟩
      rw [Int.toNat_natCast]
      refine lc_rng (r := fun i _ => some (.int (sv g1 i + sv g2 i))) (by show _ ≤ sizeLine; exact Nat.le_trans p2 (by decide)) hD2 ?_ ?_
      · intro i H' hi hH Ky Kn hy _
        have cx4 := cx3.same hH
        have cy4 := cy3.same hH
        refine ⟨rfl, yes_run ?_⟩
        have e0 : (0 : Int) + (i : Int) = (i : Int) := Int.zero_add _
        refine ⟨_, rfl, _, rfl, _, rfl, x, i, g1.length, t1, g1, by rw [e0]; rfl, cx4, p1, by omega, by omega, ?_⟩
        refine ⟨_, rfl, _, rfl, _, rfl, y, i, g1.length, t2, g2, by rw [e0]; rfl, cy4, by omega, by omega, by omega, ?_⟩
        rw [← lg, Nat.mod_eq_of_lt hi, Nat.div_self (by omega)]
        refine ⟨_, _, rfl, rfl, ?_⟩
        refine hy _ ?_
        show some (V.int _) = some (V.int _)
        congr 2
        simp
      · rw [fm_ints]
        have s3 : Same H (upd B1 D2 (.lst ((addG g1 g2).map V.int))) := (s1.trans s2).trans (sm.trans (Same.new hD2))
        have g3 : upd B1 D2 (.lst ((addG g1 g2).map V.int)) D2 = some (.lst ((addG g1 g2).map V.int)) := upd_same
        have g4 : upd B1 D2 (.lst ((addG g1 g2).map V.int)) D = some (.lst ((addT t1 t2).map vO)) := upd_new hD2 gD
        rw [show (List.range g1.length).map (fun i => sv g1 i + sv g2 i) = addG g1 g2 from rfl]
        generalize upd B1 D2 (.lst ((addG g1 g2).map V.int)) = B2 at s3 g3 g4 ⊢
        refine ⟨(by show 2 ≤ sizeLine; decide), fun z hz => ?_⟩
        exact k z D D2 _ (s3.trans (Same.new hz)) upd_same (upd_new hz g4) (upd_new hz g3)
end
end KG
namespace KG
open PySem L2
abbrev s_add : Stmt := inClass (top 43) 19
abbrev n_add : List Str := ["self", "other", "told", "gains", "value"]
theorem sc_add : FnScope n_add ["self", "other"] (defScope s_add) :=
  ⟨rfl, rfl, rfl, by decide +kernel, rfl, by decide +kernel, by decide +kernel⟩
abbrev s_mul : Stmt := inClass (top 43) 24
abbrev n_mul : List Str := ["self", "other", "value", "gain"]
theorem sc_mul : FnScope n_mul ["self", "other"] (defScope s_mul) :=
  ⟨rfl, rfl, rfl, by decide +kernel, rfl, by decide +kernel, by decide +kernel⟩
/-- what adding and multiplying ask of the written program -/
structure TxM (K : PySem.W.Frag) (mg : Str → Option Value) : Prop where
  E : TxE K mg
  lcm : mg "lcm" = some (.builtin "math.lcm")
  add : ∃ f fd, PySem.W.findIn K (.ref (gC mg)) "__add__" = some (some (.ref f)) ∧ PySem.W.isFn K (.ref f) = true ∧ MD K "__add__" "Growth.__add__" s_add [] f fd ∧ Binds K fd ["self", "other"] []
  mul : ∃ f fd, PySem.W.findIn K (.ref (gC mg)) "__mul__" = some (some (.ref f)) ∧ PySem.W.isFn K (.ref f) = true ∧ MD K "__mul__" "Growth.__mul__" s_mul [] f fd ∧ Binds K fd ["self", "other"] []
  radd : ∃ g : Addr, PySem.W.findIn K (.ref (gC mg)) "__radd__" = some (some (.ref g))
  rmul : ∃ g : Addr, PySem.W.findIn K (.ref (gC mg)) "__rmul__" = some (some (.ref g))
theorem addT_len (T1 T2 : List (Option Int)) : (addT T1 T2).length = T1.length := by
  unfold addT
  rw [List.length_map, List.length_range]
theorem addG_len (G1 G2 : List Int) : (addG G1 G2).length = G1.length := by
  unfold addG
  rw [List.length_map, List.length_range]
theorem tv_range (f : Nat → Option Int) {n i : Nat} (h : i < n) : tv ((List.range n).map f) i = f i := by
  simp [tv, List.getD_eq_getElem?_getD, h]
/-- the sum's values -/
theorem val_add {T1 T2 : List (Option Int)} {G1 G2 : List Int} (lt : T1.length = T2.length) (lg : G1.length = G2.length) (g1 : 1 ≤ G1.length) (gt : G1.length ≤ T1.length) (n : Nat) :
    valR (addT T1 T2) (addG G1 G2) n = addO (valR T1 G1 n) (valR T2 G2 n) := by
  induction n using Nat.strongRecOn with
  | _ n ih =>
    rcases Nat.lt_or_ge n T1.length with z | z
    · rw [valR_told (by rw [addT_len]; exact z), valR_told z, valR_told (by omega)]
      exact tv_range _ z
    · have h0 := valR_far (T := addT T1 T2) (G := addG G1 G2) (by rw [addG_len]; exact g1) (by rw [addG_len, addT_len]; exact gt) (n := n - G1.length) (by rw [addG_len, addT_len]; omega)
      have h1 := valR_far (T := T1) (G := G1) g1 gt (n := n - G1.length) (by omega)
      have h2 := valR_far (T := T2) (G := G2) (by omega) (by omega) (n := n - G1.length) (by omega)
      rw [addG_len, show n - G1.length + G1.length = n by omega, ih (n - G1.length) (by omega)] at h0
      rw [show n - G1.length + G1.length = n by omega] at h1
      rw [← lg, show n - G1.length + G1.length = n by omega] at h2
      rw [h0, h1, h2]
      have hs : sv (addG G1 G2) ((n - G1.length) % G1.length) = sv G1 ((n - G1.length) % G1.length) + sv G2 ((n - G1.length) % G1.length) := sv_range _ (Nat.mod_lt _ (by omega))
      rw [hs]
      cases valR T1 G1 (n - G1.length) with
      | none => rfl
      | some a =>
        cases valR T2 G2 (n - G1.length) with
        | none => rfl
        | some b =>
          show some (a + b + (sv G1 ((n - G1.length) % G1.length) + sv G2 ((n - G1.length) % G1.length))) = some (a + sv G1 ((n - G1.length) % G1.length) + (b + sv G2 ((n - G1.length) % G1.length)))
          congr 1
          omega
def mulT (k : Int) (T : List (Option Int)) : List (Option Int) := T.map (Option.map (· * k))
def mulG (k : Int) (G : List Int) : List Int := G.map (· * k)
theorem val_mul {T : List (Option Int)} {G : List Int} (k : Int) (g1 : 1 ≤ G.length) (gt : G.length ≤ T.length) (n : Nat) :
    valR (mulT k T) (mulG k G) n = (valR T G n).map (· * k) := by
  have lT : (mulT k T).length = T.length := List.length_map _
  have lG : (mulG k G).length = G.length := List.length_map _
  have hT : ∀ i, tv (mulT k T) i = (tv T i).map (· * k) := fun i => by
    unfold tv mulT
    rw [List.getD_eq_getElem?_getD, List.getD_eq_getElem?_getD, List.getElem?_map]
    cases T[i]? <;> rfl
  have hG : ∀ i, sv (mulG k G) i = sv G i * k := fun i => by
    unfold sv mulG
    rw [List.getD_eq_getElem?_getD, List.getD_eq_getElem?_getD, List.getElem?_map]
    cases G[i]? <;> simp
  induction n using Nat.strongRecOn with
  | _ n ih =>
    rcases Nat.lt_or_ge n T.length with z | z
    · rw [valR_told (by omega), valR_told z, hT]
    · have h0 := valR_far (T := mulT k T) (G := mulG k G) (by omega) (by omega) (n := n - G.length) (by omega)
      have h1 := valR_far (T := T) (G := G) g1 gt (n := n - G.length) (by omega)
      rw [lG, show n - G.length + G.length = n by omega, ih (n - G.length) (by omega), hG] at h0
      rw [show n - G.length + G.length = n by omega] at h1
      rw [h0, h1]
      cases valR T G (n - G.length) with
      | none => rfl
      | some a =>
        simp only [Option.map_some]
        congr 1
        grind
section
variable {P : Program} {w : World} {K : PySem.W.Frag} {mg : Str → Option Value} {base : Heap}
def spAdd (K : PySem.W.Frag) (C : Addr) : Sp := fun vs H Q _ => ∃ (x y : Addr) (T1 T2 : List (Option Int)) (G1 G2 : List Int), vs = [.ref x, .ref y] ∧ GrowAt K C H x T1 G1 ∧ GrowAt K C H y T2 G2 ∧
  T1.length = T2.length ∧ G1.length = G2.length ∧ 1 ≤ G1.length ∧ G1.length ≤ 60 ∧ G1.length ≤ T1.length ∧ T1.length ≤ 4000 ∧
  NewG K C H (fun n => addO (valR T1 G1 n) (valR T2 G2 n)) T1.length G1.length Q
theorem ka_add (TM : TxM K mg) : Kop P w K mg base (gC mg) 8 "__add__" ["self", "other"] (spAdd K (gC mg)) := by
  have TE := TM.E
  have TG := TE.G
  have T := TG.T
  have hl := TM.lcm
  obtain ⟨f, fd, h1, h2, F, b⟩ := TM.add
  refine ⟨f, fd, h1, h2, b, F.okM sc_add (fun vs H Q E h => ?_) (fun f cdv A outer s H vs Q E hA hr h => ?_)⟩
  · obtain ⟨x, y, _, _, _, _, rfl, _⟩ := h
    rfl
  · obtain ⟨x, y, t1, t2, g1, g2, rfl, cx, cy, lt, lg, p1, p2, p3, p4, k⟩ := h
    refine ⟨_, (pss_cons (ps_if (pt_val (pe_kf (kp_is_integerO TE) hA hr (by rfl) (pa_cons (pv 1) pa_nil)))
 (pss_one (ps_ret (pe_kf (kp_made TG) hA hr (by rfl) (pa_cons (pe_lc (own := [("value", 4)]) (g := gName 4) (tt := tYes) rfl sc_add.nd (pi_tup (pe_fld (pv 0) rfl)) (blkOk_by (N := n_add) (sc := defScope s_add) (by decide +kernel)) (fun _ _ _ _ _ => pg_name (i := 4) sc_add.nd rfl (Or.inl rfl)) (fun _ _ _ _ _ => pts_nil) (fun _ _ _ _ _ => (pe_ifExp (pt_cmpR op_isN (pv 4) (pe_non) (nomark _)) (pe_non) (pe_op op_add (pv 4) (pv 1))))) (pa_cons (pe_fld (pv 0) rfl) pa_nil))))) pss_nil)
 (pss_cons (ps_if (pt_not (pt_val (pe_callB call_isi (by rfl) (T.nb _ (by decide)) (by decide +kernel) (pa_cons (pv 1) (pa_cons (pe_glob (v := .ref (gC mg)) rfl TG.mgC rfl) pa_nil)))))
 (pss_one (ps_never)) pss_nil)
 (pss_cons (ps_asg (pe_kf (kp_summed TG hl) hA hr (by rfl) (pa_cons (pv 0) (pa_cons (pv 1) pa_nil))) (pg_tup rfl (pgs_cons (pg_name (i := 2) sc_add.nd rfl (Or.inl rfl)) (pgs_cons (pg_name (i := 3) sc_add.nd rfl (Or.inl rfl)) pgs_nil))))
 (pss_one (ps_ret (pe_kf (kp_made TG) hA hr (by rfl) (pa_cons (pv 2) (pa_cons (pv 3) pa_nil)))))))), ?_⟩
    refine ⟨_, rfl, y, _, _, rfl, cy, _, rfl, iteF ?_⟩
    obtain ⟨dy, a2, b2, e1, e2, e3⟩ := id cy
    refine ⟨_, rfl, .ref y, _, _, _, true, rfl, .own _, .base (.ins e1 TG.cls TE.iC TE.iG TE.iT TE.iM), TE.kC, _, rfl, iteF ?_⟩
    refine ⟨_, rfl, _, rfl, x, y, t1, t2, g1, g2, rfl, cx, cy, lt, lg, p1, p2, p3, p4, fun z a b H1 s1 hz ha hb => ?_⟩
    refine ⟨z, _, rfl, SqT.of hz, rfl, _, _, rfl, _, _, rfl, rfl, ?_⟩
    refine ⟨_, rfl, _, rfl, a, b, addT t1 t2, addG g1 g2, rfl, .inl (SqL.of ha), .inl (SqL.of hb), by rw [addG_len]; exact p1, by rw [addG_len]; exact p2, by rw [addG_len, addT_len]; exact p3, by rw [addT_len]; exact p4,
      fun w T' G' H2 hw s2 hg nf l1 l2 => ?_⟩
    rw [addT_len] at l1
    rw [addG_len] at l2
    exact k w T' G' H2 (s1.free hw) (s1.trans s2) hg (nf.congr (val_add lt lg p1 p3)) l1 l2
def spMul (K : PySem.W.Frag) (C : Addr) : Sp := fun vs H Q _ => ∃ (x : Addr) (T : List (Option Int)) (G : List Int) (k : Int), vs = [.ref x, .int k] ∧ GrowAt K C H x T G ∧
  0 < k ∧ k < 1000 ∧ 1 ≤ G.length ∧ G.length ≤ 60 ∧ G.length ≤ T.length ∧ T.length ≤ 4000 ∧ NewG K C H (fun n => (valR T G n).map (· * k)) T.length G.length Q
theorem ka_mul (TM : TxM K mg) : Kop P w K mg base (gC mg) 8 "__mul__" ["self", "other"] (spMul K (gC mg)) := by
  have TE := TM.E
  have TG := TE.G
  have T := TG.T
  obtain ⟨f, fd, h1, h2, F, b⟩ := TM.mul
  refine ⟨f, fd, h1, h2, b, F.okM sc_mul (fun vs H Q E h => ?_) (fun f cdv A outer s H vs Q E hA hr h => ?_)⟩
  · obtain ⟨x, _, _, _, rfl, _⟩ := h
    rfl
  · obtain ⟨x, t, g, m, rfl, cx, m0, m1, p1, p2, p3, p4, k⟩ := h
    refine ⟨_, (pss_cons (ps_if (pt_not (pt_val (pe_kf (kp_is_integer T) hA hr (by rfl) (pa_cons (pv 1) pa_nil))))
 (pss_one (ps_never)) pss_nil)
 (pss_one (ps_ret (pe_kf (kp_made TG) hA hr (by rfl) (pa_cons (pe_lc (own := [("value", 2)]) (g := gName 2) (tt := tYes) rfl sc_mul.nd (pi_tup (pe_fld (pv 0) rfl)) (blkOk_by (N := n_mul) (sc := defScope s_mul) (by decide +kernel)) (fun _ _ _ _ _ => pg_name (i := 2) sc_mul.nd rfl (Or.inl rfl)) (fun _ _ _ _ _ => pts_nil) (fun _ _ _ _ _ => (pe_ifExp (pt_cmpR op_isN (pv 2) (pe_non) (nomark _)) (pe_non) (pe_op op_mulW' (pv 2) (pv 1))))) (pa_cons (pe_lc (own := [("gain", 3)]) (g := gName 3) (tt := tYes) rfl sc_mul.nd (pi_tup (pe_fld (pv 0) rfl)) (blkOk_by (N := n_mul) (sc := defScope s_mul) (by decide +kernel)) (fun _ _ _ _ _ => pg_name (i := 3) sc_mul.nd rfl (Or.inl rfl)) (fun _ _ _ _ _ => pts_nil) (fun _ _ _ _ _ => (pe_op op_mulW' (pv 3) (pv 1)))) pa_nil)))))), ?_⟩
    obtain ⟨dx, a1, b1, c1, c2, c3⟩ := id cx
    refine ⟨_, rfl, _, rfl, _, rfl, iteF ?_⟩
    dsimp only [tNext, tRet, tSeq, tAsg, tCall, tCons, tCB, tLc]
    refine ⟨_, rfl, x, _, dx, _, _, rfl, c1, TG.cls, TG.nT, rfl, _, rfl, ⟨_, c2⟩, ?_⟩
    intro D hD
    refine lc_it (walk_tup (a := a1) (xs := t.map vO)) (fun i H' => Same H H' ∧ H' D = some (.lst ((mulT m (t.take i)).map vO))) ⟨Same.new hD, upd_same⟩ (fun _ _ _ p => SqT.new2 c2 p.1) ?_ ?_
    · rintro i xv B1 B2 hi ⟨sm, gD⟩ ⟨rfl, hx⟩
      obtain ⟨o, ho, rfl⟩ := opt_at hx
      rw [List.length_map] at hi
      refine ⟨rfl, yes_run ?_⟩
      have app : ∃ acc, B2 D = some (.lst acc) ∧ acc.length < sizeLine ∧ Same H (upd B2 D (.lst (acc ++ [vO (o.map (· * m))]))) ∧
          upd B2 D (.lst (acc ++ [vO (o.map (· * m))])) D = some (.lst ((mulT m (t.take (i + 1))).map vO)) := by
        refine ⟨_, gD, ?_, fun b o eb => upd_oth (fun z => by rw [z, hD] at eb; cases eb) (sm _ _ eb), ?_⟩
        · unfold mulT
          rw [List.length_map, List.length_map, List.length_take]
          exact Nat.lt_of_le_of_lt (Nat.min_le_left _ _) (Nat.lt_of_lt_of_le hi (Nat.le_trans p4 (by decide)))
        · rw [upd_same, List.take_add_one, ho]
          simp only [mulT, List.map_append, Option.toList, List.map_cons, List.map_nil]
      cases o with
      | none => exact ⟨_, rfl, rfl, _, rfl, iteT app⟩
      | some v =>
        refine ⟨_, rfl, rfl, _, rfl, iteF ?_⟩
        refine ⟨_, rfl, _, rfl, _, _, rfl, rfl, .inr (by constructor <;> omega), fun z hz => ?_⟩
        subst hz
        exact app
    · rintro B1 ⟨sm, gD⟩
      rw [List.length_map, List.take_length] at gD
      have c3' := SqT.new2 c3 sm
      refine ⟨_, rfl, x, _, dx, _, _, rfl, sm _ _ c1, TG.cls, TG.nG, rfl, _, rfl, ⟨_, c3'⟩, ?_⟩
      intro D2 hD2
      refine lc_it (walk_tup (a := b1) (xs := g.map V.int)) (fun i H' => Same B1 H' ∧ H' D2 = some (.lst ((mulG m (g.take i)).map V.int))) ⟨Same.new hD2, upd_same⟩ (fun _ _ _ p => SqT.new2 c3' p.1) ?_ ?_
      · rintro i xv B2 B3 hi ⟨sm2, gE⟩ ⟨rfl, hx⟩
        rw [List.length_map] at hi
        rw [List.getElem?_map, List.getElem?_eq_getElem hi] at hx
        obtain rfl := Option.some.inj hx
        refine ⟨rfl, yes_run ?_⟩
        refine ⟨_, rfl, _, rfl, _, _, rfl, rfl, .inr (by constructor <;> omega), fun z hz => ?_⟩
        subst hz
        refine ⟨_, gE, ?_, fun b o eb => upd_oth (fun z => by rw [z, hD2] at eb; cases eb) (sm2 _ _ eb), ?_⟩
        · unfold mulG
          rw [List.length_map, List.length_map, List.length_take]
          exact Nat.lt_of_le_of_lt (Nat.min_le_left _ _) (Nat.lt_of_lt_of_le hi (Nat.le_trans p2 (by decide)))
        · rw [upd_same, List.take_add_one, List.getElem?_eq_getElem hi]
          simp only [mulG, List.map_append, Option.toList, List.map_cons, List.map_nil]
      · rintro B2 ⟨sm2, gE⟩
        rw [List.length_map, List.take_length] at gE
        have lT : (mulT m t).length = t.length := List.length_map _
        have lG : (mulG m g).length = g.length := List.length_map _
        refine ⟨D, D2, mulT m t, mulG m g, rfl, .inl (SqL.of (sm2 _ _ gD)), .inl (SqL.of gE), by omega, by omega, by omega, by omega, fun w T' G' H2 hw s2 hg nf l1 l2 => ?_⟩
        have sH : Same H B2 := sm.trans sm2
        exact k w T' G' H2 (sH.free hw) (sH.trans s2) hg (nf.congr (val_mul m p1 p3)) (by omega) (by omega)
end
end KG
namespace PySem.W
open Lean Elab Tactic Meta PySem PySem.Calls PyProof.Rows
end PySem.W
namespace L2
open PySem PySem.Spec PyProof.Rows
end L2
namespace PySem.W
open Lean Elab Tactic Meta PySem PySem.Calls PyProof.Rows
end PySem.W
namespace L2
open PySem PySem.Spec PyProof.Rows
end L2
namespace L2
open PySem PySem.Spec PyProof.Rows
def rStrO (C : Addr) (sp : Sp) : List V → Hp → VK → Prop := fun xs H Q => ∃ (a dx : Addr) (fs : List (Str × V)), xs = [.ref a] ∧ H a = some (.ins C dx fs) ∧
  sp [.ref a] H (fun v H' => ∃ y : Str, v = .str y ∧ Q (.str y) H') E0
section
variable {X : Cx} {k j : Nat} {sp : Sp} {C : Addr}
theorem call_strO (G : Kop X.prog X.w X.K X.mg X.base C k "__str__" ["self"] sp) (hr : Room j X.A) (hj : k + 1 ≤ j := by decide) (hx : Passes CX0 X E0 := by exact pass0) :
    CallR X (.type "str") (rStrO C sp) := by
  obtain ⟨f, fd, hs, hf, bs, F⟩ := G
  intro pins s σ H xs us Q I r h
  obtain ⟨o, dx, fs, rfl, eo, hsp⟩ := h
  obtain ⟨u, rfl, ru⟩ := vals1 r
  obtain rfl : u = Value.ref o := ru
  obtain ⟨od, O⟩ := ins_at I eo
  have z := hr.mono hj
  have r1 : Room k X.A.in1.in1 :=
    ⟨z.hd, by have := z.dp; show X.A.depth + 3 * k + 5 < recursionLimit; omega, by have := z.un; show X.A.units + 1 + 1 + 16 * k + 200 < cLine; omega⟩
  have e0 := I.env0
  have e1 : Env0 X.prog X.w X.K X.mg X.base X.A.in1.in1 X.stack s H := ⟨e0.frames, e0.mod, e0.bs, e0.bsz, e0.funs, e0.frf, e0.hok, e0.bare⟩
  have rr : Vals [.ref o] [Value.ref o] := .cons rfl .nil
  have hu : X.A.in1.in1.units < cLine := by have := z.un; show X.A.units + 1 + 1 < cLine; omega
  refine PySem.W.kso_call hu I.kIn O hs hf ?_
  have hl := F.len _ _ _ _ hsp
  refine wpAny_call (codeAny_mono (F.run X.A.in1.in1 X.stack s H ⟨[.ref o], []⟩ [.ref o] [.ref o] _ E0 r1 e1 ?_ rr hsp) fun r s' hq => ?_)
  · have := bs s [.ref o] I.kIn (by simpa using hl)
    simpa using this
  cases r with
  | error e => exact hx pins σ H s e s' I hq
  | ok fl =>
    cases fl with
    | ret u =>
      obtain ⟨v, H', I', rv, y, rfl, q⟩ := I.after hq
      obtain ⟨t, rfl⟩ := (show ∃ t, u = Value.str y t from rv)
      exact ⟨.str y, H', I', ⟨_, rfl⟩, q⟩
    | next => exact False.elim hq
    | brk => exact False.elim hq
    | cont => exact False.elim hq
end
end L2
namespace KG
open PySem L2
abbrev s_str : Stmt := inClass (top 43) 17
abbrev n_str : List Str := ["self"]
theorem sc_str : FnScope n_str ["self"] (defScope s_str) :=
  ⟨rfl, rfl, rfl, by decide +kernel, rfl, by decide +kernel, by decide +kernel⟩
def wI (i : Int) : Str := toString i
def wO : Option Int → Str
  | none => "-"
  | some i => wI i
/-- the words of a growth -/
def rowL (T : List (Option Int)) (G : List Int) : List Str := T.map wO ++ (";" : Str) :: G.map wI
/-- the values are not great -/
def SmT (T : List (Option Int)) : Prop := ∀ o ∈ T, ∀ v, o = some v → v.natAbs < 10 ^ 9
def SmG (G : List Int) : Prop := ∀ v ∈ G, v.natAbs < 10 ^ 9
theorem small_log {v : Int} (h : v.natAbs < 10 ^ 9) : v.natAbs.log2 < 1920 := by
  have h2 : v.natAbs < 2 ^ 30 := Nat.lt_of_lt_of_le h (by decide)
  by_cases z : v.natAbs = 0
  · rw [z]
    decide
  · exact Nat.lt_of_lt_of_le ((Nat.log2_lt z).mpr h2) (by decide)
structure TxS (K : PySem.W.Frag) (mg : Str → Option Value) : Prop where
  E : TxE K mg
  str : ∃ f fd, PySem.W.findIn K (.ref (gC mg)) "__str__" = some (some (.ref f)) ∧ PySem.W.isFn K (.ref f) = true ∧ MD K "__str__" "Growth.__str__" s_str [] f fd ∧ Binds K fd ["self"] []
section
variable {P : Program} {w : World} {K : PySem.W.Frag} {mg : Str → Option Value} {base : Heap}
def spRow (K : PySem.W.Frag) : Sp := fun vs H Q _ => ∃ (a b : Addr) (T : List (Option Int)) (G : List Int), vs = [.ref a, .ref b] ∧ SqT K H a (T.map vO) ∧ SqT K H b (G.map V.int) ∧
  SmT T ∧ SmG G ∧ T.length ≤ 4000 ∧ G.length ≤ 60 ∧ ∀ (D : Addr) (H' : Hp), Same H H' → H' D = some (.lst ((rowL T G).map V.str)) → Q (.ref D) H'
theorem kp_row (T : Txt K mg) : Kf P w K mg base 1 "row_words" ["told", "gains"] (spRow K) := by
  refine T.d_roww.okF sc_roww (fun vs H Q E h => ?_) (fun f cdv A outer s H vs Q E hA hr h => ?_)
  · obtain ⟨a, b, t, g, rfl, _⟩ := h
    rfl
  · obtain ⟨a, b, t, g, rfl, ha, hb, st, sg, lt, lg, k⟩ := h
    refine ⟨_, (pss_one (ps_ret (pe_lst (StX.pa_star (pe_lc (own := [("value", 2)]) (g := gName 2) (tt := tYes) rfl sc_roww.nd (pi_tup (pv 0)) (blkOk_by (N := n_roww) (sc := defScope s_roww) (by decide +kernel)) (fun _ _ _ _ _ => pg_name (i := 2) sc_roww.nd rfl (Or.inl rfl)) (fun _ _ _ _ _ => pts_nil) (fun _ _ _ _ _ => (pe_ifExp (pt_cmpR op_isN (pv 2) (pe_non) (nomark _)) (pe_str) (pe_callTy call_str_int (by rfl) (T.nb _ (by decide)) (by decide +kernel) (pa_cons (pv 2) pa_nil))))) (pa_cons (pe_str) (StX.pa_star (pe_lc (own := [("gain", 3)]) (g := gName 3) (tt := tYes) rfl sc_roww.nd (pi_tup (pv 1)) (blkOk_by (N := n_roww) (sc := defScope s_roww) (by decide +kernel)) (fun _ _ _ _ _ => pg_name (i := 3) sc_roww.nd rfl (Or.inl rfl)) (fun _ _ _ _ _ => pts_nil) (fun _ _ _ _ _ => (pe_callTy call_str_int (by rfl) (T.nb _ (by decide)) (by decide +kernel) (pa_cons (pv 3) pa_nil)))) pa_nil)))))), ?_⟩
    refine ⟨_, rfl, _, rfl, ⟨_, ha⟩, ?_⟩
    intro D hD
    refine lc_it (walk_tup (a := a) (xs := t.map vO)) (fun i H' => Same H H' ∧ H' D = some (.lst (((t.take i).map wO).map V.str))) ⟨Same.new hD, upd_same⟩ (fun _ _ _ p => SqT.new2 ha p.1) ?_ ?_
    · rintro i xv B1 B2 hi ⟨sm, gD⟩ ⟨rfl, hx⟩
      obtain ⟨o, ho, rfl⟩ := opt_at hx
      rw [List.length_map] at hi
      refine ⟨rfl, yes_run ?_⟩
      have app : ∃ acc, B2 D = some (.lst acc) ∧ acc.length < sizeLine ∧ Same H (upd B2 D (.lst (acc ++ [V.str (wO o)]))) ∧
          upd B2 D (.lst (acc ++ [V.str (wO o)])) D = some (.lst (((t.take (i + 1)).map wO).map V.str)) := by
        refine ⟨_, gD, ?_, fun b o eb => upd_oth (fun z => by rw [z, hD] at eb; cases eb) (sm _ _ eb), ?_⟩
        · rw [List.length_map, List.length_map, List.length_take]
          exact Nat.lt_of_le_of_lt (Nat.min_le_left _ _) (Nat.lt_of_lt_of_le hi (Nat.le_trans lt (by decide)))
        · rw [upd_same, List.take_add_one, ho]
          simp only [List.map_append, Option.toList, List.map_cons, List.map_nil]
      cases o with
      | none => exact ⟨_, rfl, rfl, _, rfl, iteT app⟩
      | some v =>
        refine ⟨_, rfl, rfl, _, rfl, iteF ?_⟩
        exact ⟨_, rfl, v, rfl, small_log (st _ (List.mem_of_getElem? ho) v rfl), app⟩
    · rintro B1 ⟨sm, gD⟩
      rw [List.length_map, List.take_length] at gD
      have hb' := SqT.new2 hb sm
      refine ⟨D, _, rfl, .inr (SqL.of gD), ?_⟩
      refine ⟨_, rfl, _, rfl, ⟨_, hb'⟩, ?_⟩
      intro D2 hD2
      refine lc_it (walk_tup (a := b) (xs := g.map V.int)) (fun i H' => Same B1 H' ∧ H' D2 = some (.lst (((g.take i).map wI).map V.str))) ⟨Same.new hD2, upd_same⟩ (fun _ _ _ p => SqT.new2 hb' p.1) ?_ ?_
      · rintro i xv B2 B3 hi ⟨sm2, gE⟩ ⟨rfl, hx⟩
        rw [List.length_map] at hi
        rw [List.getElem?_map, List.getElem?_eq_getElem hi] at hx
        obtain rfl := Option.some.inj hx
        refine ⟨rfl, yes_run ?_⟩
        refine ⟨_, rfl, _, rfl, small_log (sg _ (List.getElem_mem hi)), ?_⟩
        refine ⟨_, gE, ?_, fun b o eb => upd_oth (fun z => by rw [z, hD2] at eb; cases eb) (sm2 _ _ eb), ?_⟩
        · rw [List.length_map, List.length_map, List.length_take]
          exact Nat.lt_of_le_of_lt (Nat.min_le_left _ _) (Nat.lt_of_lt_of_le hi (Nat.le_trans lg (by decide)))
        · rw [upd_same, List.take_add_one, List.getElem?_eq_getElem hi]
          simp only [List.map_append, Option.toList, List.map_cons, List.map_nil]
          rfl
      · rintro B2 ⟨sm2, gE⟩
        rw [List.length_map, List.take_length] at gE
        refine ⟨D2, _, rfl, .inr (SqL.of gE), ?_⟩
        refine ⟨?_, fun L hL => ?_⟩
        · simp only [List.length_append, List.length_map, List.length_cons, List.length_nil, List.append_nil]
          exact Nat.le_trans (Nat.add_le_add lt (Nat.succ_le_succ lg)) (by decide)
        · refine k L _ ((sm.trans sm2).trans (Same.new hL)) ?_
          rw [upd_same]
          unfold rowL
          rw [List.append_nil, List.map_append, List.map_cons]
theorem words_sum {T : List (Option Int)} {G : List Int} (st : SmT T) (sg : SmG G) : ∀ y ∈ rowL T G, y.length ≤ 11 := by
  have i1 : ∀ v : Int, v.natAbs < 10 ^ 9 → (wI v).length ≤ 11 := fun v h => by
    have := int_text_length_le10 (a := v) (k := 9) (by decide) h
    show (Str.ofString (toString v)).length ≤ 11
    rw [ofString_length]
    omega
  intro y hy
  unfold rowL at hy
  rcases List.mem_append.mp hy with h | h
  · obtain ⟨o, ho, rfl⟩ := List.mem_map.mp h
    cases o with
    | none => decide
    | some v => exact i1 v (st _ ho v rfl)
  · rcases List.mem_cons.mp h with rfl | h
    · decide
    · obtain ⟨v, hv, rfl⟩ := List.mem_map.mp h
      exact i1 v (sg _ hv)
theorem sum_le11 : ∀ {L : List Str}, (∀ y ∈ L, y.length ≤ 11) → (L.map (·.length)).sum ≤ 11 * L.length
  | [], _ => by simp
  | x :: L, h => by
    have h1 := h x List.mem_cons_self
    have h2 := sum_le11 (L := L) fun y hy => h y (List.mem_cons_of_mem _ hy)
    simp only [List.map_cons, List.sum_cons, List.length_cons]
    omega
/-- the text of a growth -/
def rowS (T : List (Option Int)) (G : List Int) : Str := PySem.Txt.join " " (rowL T G)
def spStr (K : PySem.W.Frag) (C : Addr) : Sp := fun vs H Q _ => ∃ (x : Addr) (T : List (Option Int)) (G : List Int), vs = [.ref x] ∧ GrowAt K C H x T G ∧ SmT T ∧ SmG G ∧ T.length ≤ 4000 ∧ G.length ≤ 60 ∧
  ∀ H', Same H H' → Q (.str (rowS T G)) H'
theorem ka_str (TS : TxS K mg) : Kop P w K mg base (gC mg) 3 "__str__" ["self"] (spStr K (gC mg)) := by
  have TE := TS.E
  have TG := TE.G
  have T := TG.T
  obtain ⟨f, fd, h1, h2, F, b⟩ := TS.str
  refine ⟨f, fd, h1, h2, b, F.okM sc_str (fun vs H Q E h => ?_) (fun f cdv A outer s H vs Q E hA hr h => ?_)⟩
  · obtain ⟨x, t, g, rfl, _⟩ := h
    rfl
  · obtain ⟨x, t, g, rfl, cx, st, sg, lt, lg, k⟩ := h
    obtain ⟨dx, a1, b1, c1, c2, c3⟩ := id cx
    refine ⟨_, (pss_one (ps_ret (pe_join (pe_str) (pe_kf (kp_row T) hA hr (by rfl) (pa_cons (pe_fld (pv 0) rfl) (pa_cons (pe_fld (pv 0) rfl) pa_nil)))))), ?_⟩
    refine ⟨⟨_, rfl⟩, _, rfl, x, _, dx, _, _, rfl, c1, TG.cls, TG.nT, rfl, _, rfl, x, _, dx, _, _, rfl, c1, TG.cls, TG.nG, rfl, a1, b1, t, g, rfl, c2, c3, st, sg, lt, lg, fun D H' s g' => ?_⟩
    refine ⟨" ", D, rowL t g, rfl, rfl, .inl (SqL.of g'), ?_, k H' s⟩
    have w1 := sum_le11 (words_sum st sg)
    have w2 : (rowL t g).length = t.length + (g.length + 1) := by
      unfold rowL
      rw [List.length_append, List.length_cons, List.length_map, List.length_map]
    have ls : (" " : Str).length = 1 := by decide
    rw [ls]
    omega
end
end KG
namespace KG
open PySem L2
theorem sz4 {n : Nat} (h : n ≤ 4000) : n ≤ sizeLine := Nat.le_trans h (by decide)
theorem PenAt.upd {H : Hp} {p c D : Addr} {ns : List Int} {n : Nat} {o : HO} (h : PenAt H p c ns n) (h1 : D ≠ p) (h2 : D ≠ c) :
    PenAt (upd H D o) p c ns n := by
  obtain ⟨t, g, a, b, c1, d, e⟩ := h
  exact ⟨t, g, upd_oth h1.symm a, upd_oth h2.symm b, c1, d, e⟩
theorem PenAt.ne {H : Hp} {p c D : Addr} {ns : List Int} {n : Nat} (h : PenAt H p c ns n) (hD : H D = none) : D ≠ p ∧ D ≠ c := by
  obtain ⟨t, g, a, b, _⟩ := h
  refine ⟨fun z => ?_, fun z => ?_⟩
  · rw [z, a] at hD
    cases hD
  · rw [z, b] at hD
    cases hD
theorem But.trans {p : Addr} {H H1 H2 : Hp} (a : But p H H1) (b : But p H1 H2) : But p H H2 := fun x hx o h => b x hx o (a x hx o h)
theorem But.of {p : Addr} {H H1 : Hp} (a : Same H H1) : But p H H1 := fun x _ o h => a x o h
/-- a list that is being filled -/
theorem But.fill {p D : Addr} {H H2 : Hp} {o : HO} (hD : H D = none) (a : But p H H2) : But p H (upd H2 D o) := fun x hx u h => by
  refine upd_oth ?_ (a x hx u h)
  intro z
  rw [z, hD] at h
  cases h
section
variable {P : Program} {w : World} {K : PySem.W.Frag} {mg : Str → Option Value} {base : Heap}
/-- a pair of told ones and gains -/
def PairAt (H : Hp) (z a b : Addr) (T : List (Option Int)) (G : List Int) : Prop :=
  H z = some (.tup [.ref a, .ref b]) ∧ H a = some (.lst (T.map vO)) ∧ H b = some (.lst (G.map V.int))
/-- told ones that are written short -/
def Sm (T : List (Option Int)) : Prop := ∀ o ∈ T, ∀ v, o = some v → -9 ≤ v ∧ v ≤ 30
theorem Sm.nil : Sm [] := fun o h => absurd h List.not_mem_nil
theorem Sm.snoc {T : List (Option Int)} {o : Option Int} (h : Sm T) (k : ∀ v, o = some v → -9 ≤ v ∧ v ≤ 30) : Sm (T ++ [o]) := fun u hu => by
  rcases List.mem_append.mp hu with z | z
  · exact h u z
  · rw [List.mem_singleton] at z
    rw [z]
    exact k
def spLTold : Sp := fun vs H Q _ => ∃ (p c : Addr) (ns : List Int) (n : Nat), vs = [.ref p] ∧ PenAt H p c ns n ∧ ns.length ≤ 63 ∧ n + 40 < 1000000 ∧
  ∀ (z a b : Addr) (T : List (Option Int)) (G : List Int) (n' : Nat) (H' : Hp), PairAt H' z a b T G → Sm T → (∀ v ∈ G, -3 ≤ v ∧ v ≤ 4) → H a = none → H b = none → H z = none →
    1 ≤ G.length → G.length ≤ 6 → G.length ≤ T.length → T.length ≤ 9 → PenAt H' p c ns n' → n' ≤ n + 40 → But p H H' → Q (.ref z) H'
theorem But.free {p : Addr} {H H1 : Hp} {D : Addr} (a : But p H H1) (hD : H1 D = none) (hp : D ≠ p) : H D = none := by
  cases h : H D with
  | none => rfl
  | some o =>
    rw [a D hp o h] at hD
    cases hD
theorem kp_ltold (T : Txt K mg) : Kf P w K mg base 2 "_law_told" ["_law_pen_here"] spLTold := by
  refine T.d_ltold.okF sc_ltold (fun vs H Q E h => ?_) (fun f cdv A outer s H vs Q E hA hr h => ?_)
  · obtain ⟨p, c, ns, n, rfl, _⟩ := h
    rfl
  · obtain ⟨p, c, ns, n, rfl, hp, hlen, hn, k⟩ := h
    refine ⟨_, (pss_cons (ps_setLc (i := 1) (own := [("_law_turn", 3)]) (g := gName 3) (tt := tYes) rfl sc_ltold.nd rfl rfl (sw_true rfl rfl rfl (by decide +kernel)) (pi_range1 (by rfl) (T.nb _ (by decide)) (pa_cons (pe_op op_add (pe_int) (pe_kf (kp_draw T) hA hr (by rfl) (pa_cons (pv 0) (pa_cons (pe_int) pa_nil)))) pa_nil)) (blkOk_by (N := n_ltold) (sc := defScope s_ltold) (by decide +kernel)) (fun _ _ _ _ _ => pg_name (i := 3) sc_ltold.nd rfl (Or.inl rfl)) (fun _ _ _ _ _ => pts_nil) (fun _ _ _ _ _ => (pe_op op_sub (pe_kf (kp_draw T) hA hr (by rfl) (pa_cons (pv 0) (pa_cons (pe_int) pa_nil))) (pe_int))))
 (pss_cons (ps_set (i := 2) sc_ltold.nd rfl (Or.inl rfl) (pe_op op_add (pe_callB call_len (by rfl) (T.nb _ (by decide)) PySem.boot_len (pa_cons (pv 1) pa_nil)) (pe_kf (kp_draw T) hA hr (by rfl) (pa_cons (pv 0) (pa_cons (pe_int) pa_nil)))))
 (pss_one (ps_ret (pe_tup (pa_cons (pe_lc (own := [("_law_turn", 3)]) (g := gName 3) (tt := tYes) rfl sc_ltold.nd (pi_range1 (by rfl) (T.nb _ (by decide)) (pa_cons (pv 2) pa_nil)) (blkOk_by (N := n_ltold) (sc := defScope s_ltold) (by decide +kernel)) (fun _ _ _ _ _ => pg_name (i := 3) sc_ltold.nd rfl (Or.inl rfl)) (fun _ _ _ _ _ => pts_nil) (fun _ _ _ _ _ => (pe_ifExp (pt_cmpR op_eq (pe_kf (kp_draw T) hA hr (by rfl) (pa_cons (pv 0) (pa_cons (pe_int) pa_nil))) (pe_int) (nomark _)) (pe_non) (pe_op op_sub (pe_kf (kp_draw T) hA hr (by rfl) (pa_cons (pv 0) (pa_cons (pe_int) pa_nil))) (pe_int))))) (pa_cons (pv 1) pa_nil))))))), ?_⟩
    dsimp only [tSeq, tAsg, tNext, tRet, tCKw, tCons]
    refine ⟨_, rfl, p, c, 6, ns, n, rfl, hp, hlen, by decide, by decide, by omega, fun r1 H1 ra rb hp1 fr1 => ?_⟩
    refine ⟨_, _, rfl, rfl, _, rfl, by omega, by omega, fun D hD => ?_⟩
    obtain ⟨nDp, nDc⟩ := hp1.ne hD
    refine lc_range (fun i H2 => ∃ (gs : List Int) (n' : Nat), (∀ v ∈ gs, -3 ≤ v ∧ v ≤ 4) ∧ gs.length = i ∧ H2 D = some (.lst (gs.map V.int)) ∧ PenAt H2 p c ns n' ∧ n' ≤ n + 1 + i ∧ But p H1 H2)
      ⟨[], n + 1, (fun v h => absurd h List.not_mem_nil), rfl, upd_same, hp1.upd nDp nDc, by omega, But.of (Same.new hD)⟩ ?_ ?_
    · rintro i H2 hi ⟨gs, n', hgs, hl, hd, hp2, hn2, fr2⟩
      refine ⟨rfl, yes_run ?_⟩
      refine ⟨_, rfl, p, c, 8, ns, n', rfl, hp2, hlen, by decide, by decide, by omega, fun r H3 ra rb hp3 fr3 => ?_⟩
      refine ⟨_, _, rfl, rfl, _, fr3 D nDp _ hd, ?_, gs ++ [r - 3], n' + 1, ?_, by simp [hl], ?_, hp3.upd nDp nDc, by omega, KG.But.fill hD (KG.But.trans fr2 fr3)⟩
      · rw [List.length_map, hl]
        exact Nat.lt_of_lt_of_le hi (sz4 (by omega))
      · intro v hv
        rcases List.mem_append.mp hv with z | z
        · exact hgs v z
        · rw [List.mem_singleton.mp z]
          omega
      · rw [upd_same, List.map_append]
        rfl
    · rintro H2 ⟨gs, n1, hgs, hl, hd, hp2, hn2, fr2⟩
      have frD : But p H H2 := KG.But.trans fr1 fr2
      have hH := KG.But.free fr1 hD nDp
      refine ⟨_, rfl, _, _, rfl, len_lst hd, _, rfl, p, c, 4, ns, n1, rfl, hp2, hlen, by decide, by decide, by omega, fun r2 H3 r2a r2b hp3 fr3 => ?_⟩
      rw [List.length_map, hl]
      refine ⟨_, _, rfl, rfl, ?_⟩
      have hd3 := fr3 D nDp _ hd
      have fr03 : But p H H3 := KG.But.trans frD fr3
      refine ⟨_, rfl, _, rfl, by omega, by omega, fun D2 hD2 => ?_⟩
      obtain ⟨mDp, mDc⟩ := hp3.ne hD2
      have hDD : D ≠ D2 := by
        intro z
        rw [z, hD2] at hd3
        cases hd3
      have hH2 := KG.But.free fr03 hD2 mDp
      refine lc_range (fun i H4 => ∃ (ts : List (Option Int)) (n' : Nat), ts.length = i ∧ Sm ts ∧ H4 D2 = some (.lst (ts.map vO)) ∧ PenAt H4 p c ns n' ∧ n' ≤ n1 + 1 + 2 * i ∧ But p H3 H4)
        ⟨[], n1 + 1, rfl, Sm.nil, upd_same, hp3.upd mDp mDc, by omega, But.of (Same.new hD2)⟩ ?_ ?_
      · rintro i H4 hi ⟨ts, n', hlt, hsm, hdt, hp4, hn4, fr4⟩
        refine ⟨rfl, yes_run ?_⟩
        refine ⟨_, rfl, p, c, 5, ns, n', rfl, hp4, hlen, by decide, by decide, by omega, fun r H5 ra rb hp5 fr5 => ⟨rfl, _, rfl, ?_⟩⟩
        have ll : (ts.map vO).length < sizeLine := by
          rw [List.length_map, hlt]
          exact Nat.lt_of_lt_of_le hi (sz4 (by omega))
        refine ite2 (fun c1 => ?_) (fun c1 => ?_)
        · refine ⟨_, fr5 D2 mDp _ hdt, ll, ts ++ [none], n' + 1, by simp [hlt], hsm.snoc (fun v y => by cases y), ?_, hp5.upd mDp mDc, by omega, KG.But.fill hD2 (KG.But.trans fr4 fr5)⟩
          rw [upd_same, List.map_append]
          rfl
        · refine ⟨_, rfl, p, c, 40, ns, n' + 1, rfl, hp5, hlen, by decide, by decide, by omega, fun r3 H6 r3a r3b hp6 fr6 => ?_⟩
          refine ⟨_, _, rfl, rfl, _, fr6 D2 mDp _ (fr5 D2 mDp _ hdt), ll, ts ++ [some (r3 - 9)], n' + 1 + 1, by simp [hlt], hsm.snoc (fun v y => by cases y; omega), ?_, hp6.upd mDp mDc, by omega,
            KG.But.fill hD2 (KG.But.trans (KG.But.trans fr4 fr5) fr6)⟩
          rw [upd_same, List.map_append]
          rfl
      · rintro H4 ⟨ts, n4, hlt, hsm, hdt, hp4, hn4, fr4⟩
        have hd4 := fr4 D nDp _ hd3
        refine ⟨_, rfl, (by show 2 ≤ sizeLine; decide), fun z hz => ?_⟩
        obtain ⟨nzp, nzc⟩ := hp4.ne hz
        have fr04 : But p H H4 := KG.But.trans fr03 fr4
        have nzD : z ≠ D := by
          intro y
          rw [y, hd4] at hz
          cases hz
        have nzD2 : z ≠ D2 := by
          intro y
          rw [y, hdt] at hz
          cases hz
        exact k z D2 D ts gs n4 _ ⟨upd_same, upd_oth nzD2.symm hdt, upd_oth nzD.symm hd4⟩ hsm hgs hH2 hH (KG.But.free fr04 hz nzp)
          (by omega) (by omega) (by omega) (by omega) (hp4.upd nzp nzc) (by omega) (KG.But.trans fr04 (But.of (Same.new hz)))
end
end KG
namespace KG
open PySem L2
section
variable {P : Program} {w : World} {K : PySem.W.Frag} {mg : Str → Option Value} {base : Heap}
def spLAt : Sp := fun vs H Q _ => ∃ (z a b : Addr) (T : List (Option Int)) (G : List Int) (n : Nat), vs = [.ref z, .int n] ∧ PairAt H z a b T G ∧ 1 ≤ G.length ∧ G.length ≤ T.length ∧ T.length ≤ 4000 ∧ n ≤ 100000 ∧
  SmG G ∧ Q (vO (valR T G n)) H
theorem kp_lat (T : Txt K mg) : Kf P w K mg base 1 "_law_at" ["_law_pair", "_law_n"] spLAt := by
  refine T.d_lat.okF sc_lat (fun vs H Q E h => ?_) (fun f cdv A outer s H vs Q E hA hr h => ?_)
  · obtain ⟨z, a, b, t, g, n, rfl, _⟩ := h
    rfl
  · obtain ⟨z, a, b, t, g, n, rfl, hp, g1, gt, tl, nl, sg, k⟩ := h
    refine ⟨_, (pss_cons (ps_asg (pv 0) (pg_tup rfl (pgs_cons (pg_name (i := 2) sc_lat.nd rfl (Or.inl rfl)) (pgs_cons (pg_name (i := 3) sc_lat.nd rfl (Or.inl rfl)) pgs_nil))))
 (pss_cons (ps_if (pt_cmpR op_lt (pv 1) (pe_callB call_len (by rfl) (T.nb _ (by decide)) PySem.boot_len (pa_cons (pv 2) pa_nil)) (nomark _))
 (pss_one (ps_ret (pe_ix (ix_list : IxR _ (rIxL K)) (pv 2) (pv 1) (fun _ _ => rfl)))) pss_nil)
 (pss_cons (ps_set (i := 4) sc_lat.nd rfl (Or.inl rfl) (pe_op op_add (pe_op op_divW (pe_callTy call_intI (by rfl) (T.nb _ (by decide)) (by decide +kernel) (pa_cons (pe_op op_sub (pv 1) (pe_callB call_len (by rfl) (T.nb _ (by decide)) PySem.boot_len (pa_cons (pv 2) pa_nil))) pa_nil)) (pe_callB call_len (by rfl) (T.nb _ (by decide)) PySem.boot_len (pa_cons (pv 3) pa_nil))) (pe_int)))
 (pss_cons (ps_set (i := 5) sc_lat.nd rfl (Or.inl rfl) (pe_ix (ix_list : IxR _ (rIxL K)) (pv 2) (pe_op op_sub (pv 1) (pe_op op_mulW' (pv 4) (pe_callB call_len (by rfl) (T.nb _ (by decide)) PySem.boot_len (pa_cons (pv 3) pa_nil)))) (fun _ _ => rfl)))
 (pss_one (ps_ret (pe_ifExp (pt_cmpR op_isN (pv 5) (pe_non) (nomark _)) (pe_non) (pe_op op_add (pv 5) (pe_op op_mulW' (pv 4) (pe_ix (ix_list : IxR _ (rIxL K)) (pv 3) (pe_op op_modN (pe_callTy call_intI (by rfl) (T.nb _ (by decide)) (by decide +kernel) (pa_cons (pv 1) pa_nil)) (pe_callB call_len (by rfl) (T.nb _ (by decide)) PySem.boot_len (pa_cons (pv 3) pa_nil))) (fun _ _ => rfl))))))))))), ?_⟩
    obtain ⟨hz, ha, hb⟩ := hp
    refine ⟨_, rfl, z, _, rfl, SqT.of hz, rfl, _, _, rfl, _, _, rfl, rfl, ?_⟩
    refine ⟨_, rfl, _, rfl, _, _, rfl, len_lst ha, _, _, rfl, rfl, _, rfl, ?_⟩
    rw [List.length_map]
    refine ite2 (fun c => ?_) (fun c => ?_)
    · have c : (n : Int) < (t.length : Int) := of_decide_eq_true c
      refine ⟨_, rfl, _, rfl, _, _, _, _, rfl, rfl, SqL.of ha, at_tv (k := n) rfl (by omega), ?_⟩
      rw [valR_told (by omega)] at k
      exact k
    · have c : ¬ (n : Int) < (t.length : Int) := fun z => c (decide_eq_true z)
      have cn : ¬ n < t.length := by omega
      unfold valR at k
      rw [if_neg cn] at k
      refine ⟨_, rfl, _, rfl, _, _, rfl, len_lst ha, _, _, rfl, rfl, _, rfl, _, rfl, _, _, rfl, len_lst hb, ?_⟩
      rw [List.length_map, List.length_map]
      refine ⟨_, _, rfl, rfl, by omega, by omega, fun q r e r0 r1 => ?_⟩
      rw [show ((n : Int) - (t.length : Int)) = ((n - t.length : Nat) : Int) by omega] at e
      have eq := div_q e r0 r1
      have dm := Nat.div_add_mod (n - t.length) g.length
      have ml := Nat.mod_lt (n - t.length) (show 0 < g.length by omega)
      have dl : (n - t.length) / g.length ≤ n - t.length := Nat.div_le_self _ _
      generalize (n - t.length) / g.length = q0 at k eq dm dl
      subst eq
      rw [Nat.mul_comm] at dm
      have em : (q0 + 1) * g.length = q0 * g.length + g.length := Nat.succ_mul _ _
      refine ⟨_, _, rfl, rfl, ?_⟩
      refine ⟨_, rfl, _, rfl, _, rfl, _, rfl, _, _, rfl, len_lst hb, ?_⟩
      rw [List.length_map]
      refine ⟨_, _, rfl, rfl, .inr (by constructor <;> omega), fun z1 hz1 => ?_⟩
      have z2 : z1 = (((q0 + 1) * g.length : Nat) : Int) := by
        rw [hz1, Int.natCast_mul]
        rfl
      subst z2
      refine ⟨_, _, rfl, rfl, ?_⟩
      refine ⟨_, _, _, _, rfl, rfl, SqL.of ha, at_tv (k := n - (q0 + 1) * g.length) (by omega) (by omega), ?_⟩
      cases ev : tv t (n - (q0 + 1) * g.length) with
      | none =>
        rw [ev] at k
        exact ⟨_, rfl, rfl, _, rfl, iteT k⟩
      | some v =>
        rw [ev] at k
        have em2 : ((n : Int)).fmod (g.length : Int) = ((n % g.length : Nat) : Int) := by
          rw [Int.fmod_eq_emod_of_nonneg _ (by omega)]
          rfl
        have l2 : n % g.length < g.length := Nat.mod_lt _ (by omega)
        refine ⟨_, rfl, rfl, _, rfl, iteF ?_⟩
        refine ⟨_, rfl, _, rfl, _, rfl, _, rfl, _, rfl, _, rfl, _, _, rfl, len_lst hb, ?_⟩
        rw [List.length_map]
        refine ⟨_, _, rfl, rfl, by omega, _, _, _, _, rfl, rfl, SqL.of hb, at_sv em2 l2, ?_⟩
        have hs : (sv g (n % g.length)).natAbs < 10 ^ 9 := by
          have : sv g (n % g.length) = g[n % g.length] := by simp [sv, List.getD_eq_getElem?_getD, l2]
          rw [this]
          exact sg _ (List.getElem_mem l2)
        refine ⟨_, _, rfl, rfl, .inr (by constructor <;> omega), fun z3 hz3 => ?_⟩
        subst hz3
        exact ⟨_, _, rfl, rfl, k⟩
end
end KG
namespace KG
open PySem L2
/-- what F gains within d places at t + i -/
def stp (F : Nat → Option Int) (t d i : Nat) : Int := match F (t + i), F (t + i + d) with
  | some x, some y => y - x
  | _, _ => 0
/-- F goes on by d from t on, as far as can be seen within two periods -/
def RepW (F : Nat → Option Int) (t g d : Nat) : Prop := (∀ i, i < 2 * g → (F (t + i) = none ↔ F (t + i + d) = none)) ∧ ∀ i, i + d < 2 * g → stp F t d i = stp F t d (i + d)
section
variable {F : Nat → Option Int} {t g d m : Nat} {gain : Nat → Int}
theorem rep_mod (hR : RepW F t g d) (d1 : 1 ≤ d) {i : Nat} (h : i < 2 * g) : stp F t d i = stp F t d (i % d) := by
  induction i using Nat.strongRecOn with
  | _ i ih =>
    rcases Nat.lt_or_ge i d with z | z
    · rw [Nat.mod_eq_of_lt z]
    · have h1 := hR.2 (i - d) (by omega)
      rw [show i - d + d = i by omega] at h1
      rw [← h1, ih (i - d) (by omega) (by omega)]
      have : i % d = (i - d) % d := by
        rw [← Nat.add_mod_right (i - d) d, show i - d + d = i by omega]
      rw [this]
theorem rep_chain (hR : RepW F t g d) (d1 : 1 ≤ d) {i : Nat} {x : Int} (hx : F (t + i) = some x) : ∀ j, i + d * j ≤ 2 * g → F (t + i + d * j) = some (x + (j : Int) * stp F t d (i % d))
  | 0, _ => by simp [hx]
  | j + 1, h => by
    have e1 : d * (j + 1) = d * j + d := Nat.mul_succ d j
    have ih := rep_chain hR d1 hx j (by omega)
    have hi : i + d * j < 2 * g := by omega
    have n1 := hR.1 (i + d * j) hi
    have s1 := rep_mod hR d1 hi
    rw [Nat.add_mul_mod_self_left] at s1
    rw [← Nat.add_assoc, ih] at n1
    rw [e1, show t + i + (d * j + d) = t + i + d * j + d by omega]
    cases ev : F (t + i + d * j + d) with
    | none => exact absurd (n1.mpr ev) (by simp)
    | some y =>
      unfold stp at s1
      rw [← Nat.add_assoc, ih, ev] at s1
      have s1 : y - (x + (j : Int) * stp F t d (i % d)) = stp F t d (i % d) := s1
      have : ((j + 1 : Nat) : Int) = (j : Int) + 1 := by omega
      rw [this]
      congr 1
      grind
theorem rep_on (hR : RepW F t g d) (d1 : 1 ≤ d) (hm : g = d * m) (g1 : 1 ≤ g) (go : ∀ n, t ≤ n → F (n + g) = (F n).map (· + gain n)) (gp : ∀ n, t ≤ n → gain (n + g) = gain n) :
    (∀ n, t ≤ n → (F (n + d) = none ↔ F n = none)) ∧ ∀ n x y, t ≤ n → F n = some x → F (n + d) = some y → y - x = stp F t d ((n - t) % d) := by
  have far : ∀ k n, t ≤ n → F (n + g * k) = (F n).map (· + (k : Int) * gain n) ∧ gain (n + g * k) = gain n := by
    intro k
    induction k with
    | zero => intro n _; simp
    | succ k ih =>
      intro n hn
      obtain ⟨h1, h2⟩ := ih n hn
      have e : n + g * (k + 1) = n + g * k + g := by rw [Nat.mul_succ, Nat.add_assoc]
      rw [e, go _ (by omega), gp _ (by omega), h1, h2]
      refine ⟨?_, rfl⟩
      cases F n with
      | none => rfl
      | some x =>
        simp only [Option.map_some]
        congr 1
        have : ((k + 1 : Nat) : Int) = (k : Int) + 1 := by omega
        rw [this]
        grind
  -- the gain of a rest within the first period
  have gain0 : ∀ i x, i < g → F (t + i) = some x → gain (t + i) = (m : Int) * stp F t d (i % d) := fun i x hi hx => by
    have c := rep_chain hR d1 hx m (by omega)
    rw [← hm, go (t + i) (by omega), hx] at c
    simp only [Option.map_some, Option.some.injEq] at c
    omega
  have gain1 : ∀ i x, i < 2 * g → F (t + i) = some x → gain (t + i) = (m : Int) * stp F t d (i % d) := fun i x hi hx => by
    rcases Nat.lt_or_ge i g with z | z
    · exact gain0 i x z hx
    · have e : t + i = t + (i - g) + g := by omega
      have g2 := gp (t + (i - g)) (by omega)
      rw [← e] at g2
      rw [g2]
      have em : i % d = (i - g) % d := by
        have : i = i - g + d * m := by omega
        conv => lhs; rw [this, Nat.add_mul_mod_self_left]
      rw [em]
      cases ev : F (t + (i - g)) with
      | none =>
        have := go (t + (i - g)) (by omega)
        rw [← e, hx, ev] at this
        cases this
      | some x0 => exact gain0 (i - g) x0 (by omega) ev
  have main : ∀ n, t ≤ n → (F (n + d) = none ↔ F n = none) ∧ ∀ x y, F n = some x → F (n + d) = some y → y - x = stp F t d ((n - t) % d) := fun n hn => by
    have hmod := Nat.mod_add_div (n - t) g
    have ml := Nat.mod_lt (n - t) (show 0 < g by omega)
    have dg : d ≤ g := by
      rw [hm]
      have m1 : 1 ≤ m := by
        rcases Nat.eq_zero_or_pos m with z | z
        · rw [z] at hm
          omega
        · exact z
      have : d * 1 ≤ d * m := Nat.mul_le_mul_left _ m1
      omega
    have ed : (n - t) % d = ((n - t) % g) % d := (Nat.mod_mod_of_dvd _ ⟨m, hm⟩).symm
    rw [ed]
    generalize (n - t) % g = r at hmod ml
    generalize (n - t) / g = k at hmod
    have en : n = t + r + g * k := by omega
    have f1 := (far k (t + r) (by omega)).1
    have f2 := (far k (t + r + d) (by omega)).1
    rw [← en] at f1
    rw [show t + r + d + g * k = n + d by omega] at f2
    have w := hR.1 r (by omega)
    refine ⟨by rw [f1, f2]; simp; exact w.symm, fun x y hx hy => ?_⟩
    cases e1 : F (t + r) with
    | none => rw [f1, e1] at hx; cases hx
    | some x0 =>
      cases e2 : F (t + r + d) with
      | none => rw [f2, e2] at hy; cases hy
      | some y0 =>
        rw [f1, e1] at hx
        rw [f2, e2] at hy
        simp only [Option.map_some, Option.some.injEq] at hx hy
        have a1 := gain1 r x0 (by omega) e1
        have a2 := gain1 (r + d) y0 (by omega) (by rw [← Nat.add_assoc]; exact e2)
        rw [← Nat.add_assoc, Nat.add_mod_right] at a2
        have a3 := rep_mod hR d1 (i := r) (by omega)
        unfold stp at a3
        rw [e1, e2] at a3
        have a3 : y0 - x0 = stp F t d (r % d) := a3
        rw [a1] at hx
        rw [a2] at hy
        rw [← a3]
        omega
  exact ⟨fun n hn => (main n hn).1, fun n x y hn => (main n hn).2 x y⟩
end
section
variable {F : Nat → Option Int} {T' : List (Option Int)} {G' : List Int}
/-- a growth in its normal form doesn't repeat within less -/
theorem Nf.noRep (h : Nf F T' G') {d : Nat} (d1 : 1 ≤ d) (dp : d ∣ G'.length) (dl : d < G'.length) : ¬ RepW F T'.length G'.length d := by
  intro hR
  obtain ⟨m, hm⟩ := dp
  obtain ⟨l1, l2⟩ := h.len
  have hF : ∀ n, F n = valR T' G' n := fun n => (h.val n).symm
  have := rep_on hR d1 hm l1 (gain := fun n => sv G' (n % G'.length)) (fun n hn => by
    rw [hF, hF, valR_far l1 l2 (by omega)]) (fun n _ => by
    show sv G' ((n + G'.length) % G'.length) = _
    rw [Nat.add_mod_right])
  have s1 : ∀ n, (n + d * T'.length - T'.length) % d = n % d → True := fun _ _ => trivial
  refine h.min (M := T'.length) (c := fun r => stp F T'.length d ((r + d * T'.length - T'.length) % d)) d1 ⟨m, hm⟩ dl this.1 fun n x y hn hx hy => ?_
  rw [this.2 n x y hn hx hy]
  congr 1
  -- both rests are told by n
  have big : T'.length ≤ d * T'.length := by
    have : 1 * T'.length ≤ d * T'.length := Nat.mul_le_mul_right _ d1
    omega
  have e1 : n % d + d * T'.length - T'.length + d * (n / d) = n - T'.length + d * T'.length := by
    have := Nat.mod_add_div n d
    omega
  have e2 : (n % d + d * T'.length - T'.length + d * (n / d)) % d = (n % d + d * T'.length - T'.length) % d := Nat.add_mul_mod_self_left _ _ _
  rw [← e2, e1, Nat.add_mul_mod_self_left]
end
end KG
namespace KG
open PySem L2
section
variable {P : Program} {w : World} {K : PySem.W.Frag} {mg : Str → Option Value} {base : Heap}
theorem PairAt.same {H H' : Hp} {z a b : Addr} {T : List (Option Int)} {G : List Int} (h : PairAt H z a b T G) (s : Same H H') : PairAt H' z a b T G := ⟨s _ _ h.1, s _ _ h.2.1, s _ _ h.2.2⟩
def spLRep : Sp := fun vs H Q _ => ∃ (z a b : Addr) (T : List (Option Int)) (G : List Int) (d : Nat), vs = [.ref z, .int d] ∧ PairAt H z a b T G ∧ 1 ≤ G.length ∧ G.length ≤ 60 ∧ G.length ≤ T.length ∧ T.length ≤ 4000 ∧ 1 ≤ d ∧ d ≤ G.length ∧
  SmG G ∧ ∀ (r : Bool) (H' : Hp), Same H H' → (r = true → RepW (valR T G) T.length G.length d) → Q (.bl r) H'
theorem kp_lrep (T : Txt K mg) : Kf P w K mg base 2 "_law_repeats" ["_law_pair", "_law_less"] spLRep := by
  refine T.d_lrepeats.okF sc_lrepeats (fun vs H Q E h => ?_) (fun f cdv A outer s H vs Q E hA hr h => ?_)
  · obtain ⟨z, a, b, t, g, n, rfl, _⟩ := h
    rfl
  · obtain ⟨z, a, b, t, g, d, rfl, hp, g1, g2, gt, tl, d1, d2, sg, k⟩ := h
    refine ⟨_, (pss_cons (ps_asg (pe_tup (pa_cons (pe_callB call_len (by rfl) (T.nb _ (by decide)) PySem.boot_len (pa_cons (pe_ix (ix_tup : IxR _ (rIxT K)) (pv 0) (pe_int) (fun _ _ => rfl)) pa_nil)) (pa_cons (pe_lst pa_nil) pa_nil))) (pg_tup rfl (pgs_cons (pg_name (i := 2) sc_lrepeats.nd rfl (Or.inl rfl)) (pgs_cons (pg_name (i := 3) sc_lrepeats.nd rfl (Or.inr rfl)) pgs_nil))))
 (pss_cons (ps_for PassesOwn.never rfl (pi_range2 (by rfl) (T.nb _ (by decide)) (pa_cons (pv 2) (pa_cons (pe_op op_add (pv 2) (pe_op op_mul (pe_int) (pe_callB call_len (by rfl) (T.nb _ (by decide)) PySem.boot_len (pa_cons (pe_ix (ix_tup : IxR _ (rIxT K)) (pv 0) (pe_int) (fun _ _ => rfl)) pa_nil)))) pa_nil))) (pg_name (i := 4) sc_lrepeats.nd rfl (Or.inl rfl))
 (pss_cons (ps_par (i := 5) (j := 6) (by rfl) sc_lrepeats.nd rfl rfl (by decide) rfl rfl (pa_cons (pe_kf (kp_lat T) hA hr (by rfl) (pa_cons (pv 0) (pa_cons (pv 4) pa_nil))) (pa_cons (pe_kf (kp_lat T) hA hr (by rfl) (pa_cons (pv 0) (pa_cons (pe_op op_add (pv 4) (pv 1)) pa_nil))) pa_nil)) (by rfl))
 (pss_cons (ps_if (pt_cmpR op_ne (pe_cmpR op_isN (pv 5) (pe_non) (nomark _)) (pe_cmpR op_isN (pv 6) (pe_non) (nomark _)) (nomark _))
 (pss_one (ps_ret (pe_bl))) pss_nil)
 (pss_one (ps_expr (pe_bm PySem.F.plainAttrs_list PySem.F.slot_list_append PySem.F.type_list_append mt_append (pv 3) (pa_cons (pe_ifExp (pt_cmpR op_isN (pv 5) (pe_non) (nomark _)) (pe_int) (pe_op op_sub (pv 6) (pv 5))) pa_nil)))))))
 (pss_one (ps_ret (pe_cmpR (op_eqD hr.units) (pe_lc (own := [("_law_at_here", 7)]) (g := gName 7) rfl sc_lrepeats.nd (pi_range1 (by rfl) (T.nb _ (by decide)) (pa_cons (pe_op op_sub (pe_callB call_len (by rfl) (T.nb _ (by decide)) PySem.boot_len (pa_cons (pv 3) pa_nil)) (pv 1)) pa_nil)) (blkOk_by (N := n_lrepeats) (sc := defScope s_lrepeats) (by decide +kernel)) (fun _ _ _ _ _ => pg_name (i := 7) sc_lrepeats.nd rfl (Or.inl rfl)) (fun _ _ _ _ _ => (pts_one (pt_cmpR op_ne (pe_ix (ix_list : IxR _ (rIxL K)) (pv 3) (pv 7) (fun _ _ => rfl)) (pe_ix (ix_list : IxR _ (rIxL K)) (pv 3) (pe_op op_add (pv 7) (pv 1)) (fun _ _ => rfl)) (nomark _)))) (fun _ _ _ _ _ => (pv 7))) (pe_lst pa_nil) (nomark _)))))), ?_⟩
    obtain ⟨hz, ha, hb⟩ := id hp
    dsimp only [tSeq, tAsg, tNext, tRet, tCons, tCB]
    refine ⟨_, rfl, _, _, _, _, rfl, rfl, SqT.of hz, rfl, _, _, rfl, len_lst ha, ?_⟩
    rw [List.length_map]
    refine ⟨by decide, fun D hD => ⟨(by show 2 ≤ sizeLine; decide), fun Z hZ => ?_⟩⟩
    have s1 : Same H (upd (upd H D (.lst [])) Z (.tup [.int (t.length : Nat), .ref D])) := (Same.new hD).trans (Same.new hZ)
    have gZ : upd (upd H D (.lst [])) Z (.tup [.int (t.length : Nat), .ref D]) Z = some (.tup [.int (t.length : Nat), .ref D]) := upd_same
    have gD : upd (upd H D (.lst [])) Z (.tup [.int (t.length : Nat), .ref D]) D = some (.lst []) := upd_new hZ upd_same
    generalize upd (upd H D (.lst [])) Z (.tup [.int (t.length : Nat), .ref D]) = H1 at s1 gZ gD ⊢
    have hp1 := hp.same s1
    refine ⟨Z, _, rfl, SqT.of gZ, rfl, _, _, rfl, _, _, rfl, rfl, ?_⟩
    refine ⟨_, rfl, _, rfl, _, rfl, _, _, _, _, rfl, rfl, SqT.of hp1.1, rfl, _, _, rfl, len_lst hp1.2.2, ?_⟩
    rw [List.length_map]
    refine ⟨_, _, rfl, rfl, .inl ⟨by decide, by decide⟩, ?_⟩
    refine ⟨_, _, rfl, rfl, ?_⟩
    refine ⟨_, _, rfl, ⟨by omega, by omega, by omega, by omega⟩, ?_⟩
    rw [show ((t.length : Int) + 2 * (g.length : Int) - (t.length : Int)).toNat = 2 * g.length by omega]
    refine for_range (lo := (t.length : Int)) (n := 2 * g.length) (fun i σ H' => ∃ (v4 v5 v6 : Option V), Same H H' ∧ H' D = some (.lst (((List.range i).map (stp (valR t g) t.length d)).map V.int)) ∧
      (∀ j, j < i → (valR t g (t.length + j) = none ↔ valR t g (t.length + j + d) = none)) ∧ σ = [some (.ref z), some (.int d), some (.int (t.length : Nat)), some (.ref D), v4, v5, v6, none])
      ⟨_, _, _, s1, gD, fun j hj => absurd hj (Nat.not_lt_zero j), rfl⟩ ?_ ?_
    · rintro i σ H2 hi ⟨v4, v5, v6, sm, gD2, pre, rfl⟩
      have hp2 := hp.same sm
      have e1 : (t.length : Int) + (i : Int) = ((t.length + i : Nat) : Int) := by omega
      have e2 : ((t.length + i : Nat) : Int) + (d : Int) = ((t.length + i + d : Nat) : Int) := by omega
      rw [e1]
      refine ⟨_, rfl, _, rfl, z, a, b, t, g, t.length + i, rfl, hp2, g1, gt, tl, by omega, sg, ?_⟩
      refine ⟨_, rfl, _, rfl, _, rfl, _, _, rfl, rfl, ?_⟩
      refine ⟨z, a, b, t, g, t.length + i + d, (by rw [← e2]; rfl), hp2, g1, gt, tl, by omega, sg, ?_⟩
      refine ⟨_, _, rfl, ?_⟩
      have nxt : (valR t g (t.length + i) = none ↔ valR t g (t.length + i + d) = none) → ∀ j, j < i + 1 → (valR t g (t.length + j) = none ↔ valR t g (t.length + j + d) = none) := fun h j hj => by
        rcases Nat.lt_succ_iff_lt_or_eq.mp hj with z | z
        · exact pre j z
        · rw [z]
          exact h
      have no : ¬ (valR t g (t.length + i) = none ↔ valR t g (t.length + i + d) = none) → Q (.bl false) H2 := fun h => k false H2 sm fun z => (nomatch z)
      have app : ∀ v, v = stp (valR t g) t.length d i → ∃ xs, H2 D = some (.lst xs) ∧ True ∧ upd H2 D (.lst (xs ++ [V.int v])) D = some (.lst (((List.range (i + 1)).map (stp (valR t g) t.length d)).map V.int)) ∧ Same H (upd H2 D (.lst (xs ++ [V.int v]))) ∧ xs.length < 1000 := fun v hv => by
        refine ⟨_, gD2, trivial, ?_, fun b o eb => upd_oth (fun z => by rw [z, hD] at eb; cases eb) (sm _ _ eb), ?_⟩
        · rw [upd_same, hv, List.range_succ, List.map_append, List.map_append]
          rfl
        · rw [List.length_map, List.length_map, List.length_range]
          omega
      cases f1 : valR t g (t.length + i) with
      | none =>
        cases f2 : valR t g (t.length + i + d) with
        | none =>
          refine ⟨_, rfl, rfl, _, rfl, rfl, rfl, _, rfl, iteF ?_⟩
          refine ⟨_, rfl, .inl ⟨rfl, _, SqL.of gD2⟩, _, rfl, rfl, _, rfl, iteT ?_⟩
          obtain ⟨xs, q1, _, q3, q4, q5⟩ := app 0 (by unfold stp; rw [f1])
          exact ⟨D, xs, _, rfl, rfl, q1, Nat.lt_of_lt_of_le q5 (by decide), _, _, _, q4, q3, nxt (by rw [f1, f2]), rfl⟩
        | some y =>
          refine ⟨_, rfl, rfl, _, rfl, rfl, rfl, _, rfl, iteT ?_⟩
          exact no (by rw [f1, f2]; simp)
      | some x =>
        cases f2 : valR t g (t.length + i + d) with
        | none =>
          refine ⟨_, rfl, rfl, _, rfl, rfl, rfl, _, rfl, iteT ?_⟩
          exact no (by rw [f1, f2]; simp)
        | some y =>
          refine ⟨_, rfl, rfl, _, rfl, rfl, rfl, _, rfl, iteF ?_⟩
          refine ⟨_, rfl, .inl ⟨rfl, _, SqL.of gD2⟩, _, rfl, rfl, _, rfl, iteF ?_⟩
          refine ⟨_, rfl, _, rfl, _, _, rfl, rfl, ?_⟩
          obtain ⟨xs, q1, _, q3, q4, q5⟩ := app (y - x) (by unfold stp; rw [f1, f2])
          exact ⟨D, xs, _, rfl, rfl, q1, Nat.lt_of_lt_of_le q5 (by decide), _, _, _, q4, q3, nxt (by rw [f1, f2]; simp), rfl⟩
    · rintro σ H2 ⟨v4, v5, v6, sm, gD2, pre, rfl⟩
      have hp2 := hp.same sm
      generalize hS : (List.range (2 * g.length)).map (stp (valR t g) t.length d) = S at gD2
      have lS : S.length = 2 * g.length := by
        rw [← hS, List.length_map, List.length_range]
      dsimp only [tRet, tOp, tLc, tCB, tCons]
      refine ⟨_, rfl, _, _, rfl, len_lst gD2, ?_⟩
      rw [List.length_map, lS]
      refine ⟨_, rfl, _, _, rfl, rfl, ?_⟩
      refine ⟨_, rfl, by omega, by omega, fun D2 hD2 => ?_⟩
      rw [show (((2 * g.length : Nat) : Int) - (d : Int)).toNat = 2 * g.length - d by omega]
      refine lc_range (fun j H' => ∃ L : List Int, H' D2 = some (.lst (L.map V.int)) ∧ Same H2 H' ∧ L.length ≤ j ∧ (L = [] → ∀ i, i < j → sv S i = sv S (i + d)))
        ⟨[], upd_same, Same.new hD2, Nat.le_refl _, fun _ i h => absurd h (Nat.not_lt_zero i)⟩ ?_ ?_
      · rintro j H3 hj ⟨L, gL, s3, lL, hL⟩
        have gD3 := s3 _ _ gD2
        have e0 : (0 : Int) + (j : Int) = ((j : Nat) : Int) := Int.zero_add _
        have e2 : (0 : Int) + (j : Int) + (d : Int) = ((j + d : Nat) : Int) := by omega
        refine ⟨rfl, ?_⟩
        refine ⟨_, rfl, _, rfl, _, _, _, _, rfl, rfl, SqL.of gD3, at_sv e0 (by omega), ?_⟩
        refine ⟨_, rfl, _, rfl, _, rfl, _, _, rfl, rfl, _, _, _, _, rfl, rfl, SqL.of gD3, at_sv e2 (by omega), ?_⟩
        refine ⟨rfl, _, rfl, ?_⟩
        by_cases c : sv S j = sv S (j + d)
        · rw [c, decide_eq_true rfl]
          refine iteF ⟨L, gL, s3, by omega, fun z i hi => ?_⟩
          rcases Nat.lt_succ_iff_lt_or_eq.mp hi with y | y
          · exact hL z i y
          · rw [y]
            exact c
        · rw [decide_eq_false (fun z => c (V.int.inj z))]
          refine iteT ?_
          refine ⟨_, rfl, _, gL, ?_, L ++ [(0 : Int) + (j : Int)], ?_, fun b o eb => upd_oth (fun z => by rw [z, hD2] at eb; cases eb) (s3 _ _ eb), ?_, fun z => by simp at z⟩
          · rw [List.length_map]
            exact Nat.lt_of_le_of_lt lL (Nat.lt_of_lt_of_le hj (Nat.le_trans (show 2 * g.length - d ≤ 120 by omega) (by decide)))
          · rw [upd_same, List.map_append]
            rfl
          · rw [List.length_append]
            show L.length + 1 ≤ j + 1
            omega
      · rintro H3 ⟨L, gL, s3, lL, hL⟩
        refine ⟨by decide, fun D3 hD3 => ?_⟩
        refine ⟨_, _, .lst (SqL.of (upd_new hD3 gL)) (dp_ints L), .lst (SqL.of upd_same) .nil, shaped_ints L, rfl, ?_⟩
        rw [eqv_nil]
        refine k _ _ (sm.trans (s3.trans (Same.new hD3))) fun z => ?_
        have zL : L = [] := by
          cases L with
          | nil => rfl
          | cons x l => cases z
        refine ⟨pre, fun i hi => ?_⟩
        have := hL zL i (by omega)
        rw [← hS, sv_range _ (by omega), sv_range _ (by omega)] at this
        exact this
end
end KG
namespace KG
open PySem L2
section
variable {P : Program} {w : World} {K : PySem.W.Frag} {mg : Str → Option Value} {base : Heap}
def spLNorm (K : PySem.W.Frag) : Sp := fun vs H Q _ => ∃ (a b : Addr) (F : Nat → Option Int) (T : List (Option Int)) (G : List Int), vs = [.ref a, .ref b] ∧ SqT K H a (T.map vO) ∧ SqT K H b (G.map V.int) ∧ Nf F T G ∧
  G.length ≤ 60 ∧ T.length ≤ 4000 ∧ SmG G ∧ ∀ H', Same H H' → Q (.bl true) H'
theorem kp_lnorm (T : Txt K mg) : Kf P w K mg base 3 "_law_is_normal" ["_law_told_here", "_law_gains"] (spLNorm K) := by
  refine T.d_lisnormal.okF sc_lisnormal (fun vs H Q E h => ?_) (fun f cdv A outer s H vs Q E hA hr h => ?_)
  · obtain ⟨a, b, F, t, g, rfl, _⟩ := h
    rfl
  · obtain ⟨a, b, F, t, g, rfl, ha, hb, nf, g2, tl, sg, k⟩ := h
    refine ⟨_, (pss_cons (ps_asg (pe_tup (pa_cons (pe_callB call_len (by rfl) (T.nb _ (by decide)) PySem.boot_len (pa_cons (pv 0) pa_nil)) (pa_cons (pe_callB call_len (by rfl) (T.nb _ (by decide)) PySem.boot_len (pa_cons (pv 1) pa_nil)) (pa_cons (pe_tup (pa_cons (pe_callTy call_list_of (by rfl) (T.nb _ (by decide)) (by decide +kernel) (pa_cons (pv 0) pa_nil)) (pa_cons (pe_callTy call_list_of (by rfl) (T.nb _ (by decide)) (by decide +kernel) (pa_cons (pv 1) pa_nil)) pa_nil))) pa_nil)))) (pg_tup rfl (pgs_cons (pg_name (i := 2) sc_lisnormal.nd rfl (Or.inl rfl)) (pgs_cons (pg_name (i := 3) sc_lisnormal.nd rfl (Or.inr rfl)) (pgs_cons (pg_name (i := 4) sc_lisnormal.nd rfl (Or.inr rfl)) pgs_nil)))))
 (pss_cons (ps_if (pt_cmpR op_lt (pv 2) (pv 3) (nomark _))
 (pss_one (ps_ret (pe_bl))) pss_nil)
 (pss_cons (ps_for PassesOwn.never rfl (pi_range2 (by rfl) (T.nb _ (by decide)) (pa_cons (pe_op op_sub (pv 2) (pv 3)) (pa_cons (pv 2) pa_nil))) (pg_name (i := 5) sc_lisnormal.nd rfl (Or.inl rfl))
 (pss_one (ps_if (PW.pt (pw_and (pt_cmpR op_isN (pe_ix (ix_tup : IxR _ (rIxT K)) (pv 0) (pv 5) (fun _ _ => rfl)) (pe_non) (nomark _)) (pw_and1 (pt_cmpR op_ne (pe_ix (ix_tup : IxR _ (rIxT K)) (pv 1) (pe_op op_modN (pe_callTy call_intI (by rfl) (T.nb _ (by decide)) (by decide +kernel) (pa_cons (pv 5) pa_nil)) (pv 3)) (fun _ _ => rfl)) (pe_int) (nomark _)))))
 (pss_one (ps_ret (pe_bl))) pss_nil)))
 (pss_mid (ps_if (pt_cmpR op_gt (pv 2) (pv 3) (nomark _))
 (pss_cons (ps_par (i := 6) (j := 7) (by rfl) sc_lisnormal.nd rfl rfl (by decide) rfl rfl (pa_cons (pe_ix (ix_tup : IxR _ (rIxT K)) (pv 0) (pe_op op_sub (pe_op op_sub (pv 2) (pe_int)) (pv 3)) (fun _ _ => rfl)) (pa_cons (pe_ix (ix_tup : IxR _ (rIxT K)) (pv 0) (pe_op op_sub (pv 2) (pe_int)) (fun _ _ => rfl)) pa_nil)) (by rfl))
 (pss_cons (ps_if (PW.pt (pw_and (pt_cmpR op_isN (pv 6) (pe_non) (nomark _)) (pw_and1 (pt_cmpR op_isN (pv 7) (pe_non) (nomark _)))))
 (pss_one (ps_ret (pe_bl))) pss_nil)
 (pss_one (ps_if (PW.pt (pw_and (pt_cmpR op_notN (pv 6) (pe_non) (nomark _)) (pw_and (pt_cmpR op_notN (pv 7) (pe_non) (nomark _)) (pw_and1 (pt_cmpR op_eq (pe_op op_sub (pv 7) (pv 6)) (pe_ix (ix_tup : IxR _ (rIxT K)) (pv 1) (pe_op op_modN (pe_callTy call_intI (by rfl) (T.nb _ (by decide)) (by decide +kernel) (pa_cons (pe_op op_sub (pv 2) (pe_int)) pa_nil)) (pv 3)) (fun _ _ => rfl)) (nomark _))))))
 (pss_one (ps_ret (pe_bl))) pss_nil)))) pss_nil)
 (pss_one (ps_ret (pe_cmpR (op_eqD hr.units) (pe_lc (own := [("_law_less", 8)]) (g := gName 8) rfl sc_lisnormal.nd (pi_range2 (by rfl) (T.nb _ (by decide)) (pa_cons (pe_int) (pa_cons (pv 3) pa_nil))) (blkOk_by (N := n_lisnormal) (sc := defScope s_lisnormal) (by decide +kernel)) (fun _ _ _ _ _ => pg_name (i := 8) sc_lisnormal.nd rfl (Or.inl rfl)) (fun _ _ _ _ _ => (pts_one (PW.pt (pw_and (pt_cmpR op_eq (pe_op op_modN (pe_callTy call_intI (by rfl) (T.nb _ (by decide)) (by decide +kernel) (pa_cons (pv 3) pa_nil)) (pv 8)) (pe_int) (nomark _)) (pw_and1 (pt_val (pe_kf (kp_lrep T) hA hr (by rfl) (pa_cons (pv 4) (pa_cons (pv 8) pa_nil))))))))) (fun _ _ _ _ _ => (pv 8))) (pe_lst pa_nil) (nomark _)))))))), ?_⟩
    obtain ⟨g1, gt⟩ := nf.len
    dsimp only [tSeq, tAsg, tNext, tRet, tCons, tCB]
    refine ⟨_, rfl, _, _, rfl, SqS.len (.inr ha), _, rfl, _, _, rfl, SqS.len (.inr hb), ?_⟩
    rw [List.length_map, List.length_map]
    refine ⟨_, rfl, a, _, rfl, .inr ha, fun l1 hl1 => ?_⟩
    have s1 : Same H (upd H l1 (.lst (t.map vO))) := Same.new hl1
    have q1 : upd H l1 (.lst (t.map vO)) l1 = some (.lst (t.map vO)) := upd_same
    generalize upd H l1 (.lst (t.map vO)) = H1 at s1 q1 ⊢
    refine ⟨_, rfl, b, _, rfl, .inr (SqT.new2 hb s1), fun l2 hl2 => ?_⟩
    have s2 : Same H1 (upd H1 l2 (.lst (g.map V.int))) := Same.new hl2
    have q2 : upd H1 l2 (.lst (g.map V.int)) l2 = some (.lst (g.map V.int)) := upd_same
    have q1 := s2 _ _ q1
    generalize upd H1 l2 (.lst (g.map V.int)) = H2 at s2 q1 q2 ⊢
    have s2 := s1.trans s2
    refine ⟨(by show 2 ≤ sizeLine; decide), fun z hz => ?_⟩
    have s3 : Same H2 (upd H2 z (.tup [.ref l1, .ref l2])) := Same.new hz
    have q3 : upd H2 z (.tup [.ref l1, .ref l2]) z = some (.tup [.ref l1, .ref l2]) := upd_same
    generalize upd H2 z (.tup [.ref l1, .ref l2]) = H3 at s3 q3 ⊢
    have hp : PairAt H3 z l1 l2 t g := ⟨q3, s3 _ _ q1, s3 _ _ q2⟩
    have s3 := s2.trans s3
    refine ⟨(by show 3 ≤ sizeLine; decide), fun y hy => ?_⟩
    have s4 : Same H3 (upd H3 y (.tup [.int (t.length : Nat), .int (g.length : Nat), .ref z])) := Same.new hy
    have q4 : upd H3 y (.tup [.int (t.length : Nat), .int (g.length : Nat), .ref z]) y = some (.tup [.int (t.length : Nat), .int (g.length : Nat), .ref z]) := upd_same
    generalize upd H3 y (.tup [.int (t.length : Nat), .int (g.length : Nat), .ref z]) = H4 at s4 q4 ⊢
    have hp := hp.same s4
    have s4 := s3.trans s4
    clear s1 s2 s3 q1 q2 q3
    have ha4 := SqT.new2 ha s4
    have hb4 := SqT.new2 hb s4
    refine ⟨y, _, rfl, SqT.of q4, rfl, _, _, rfl, _, _, rfl, _, _, rfl, rfl, ?_⟩
    refine ⟨_, rfl, _, rfl, _, _, rfl, rfl, _, rfl, ?_⟩
    rw [decide_eq_false (by omega)]
    refine iteF ?_
    dsimp only [tSeq, tAsg, tNext, tRet, tCons, tCB]
    refine ⟨_, rfl, _, rfl, _, _, rfl, rfl, _, rfl, _, _, rfl, ⟨by omega, by omega, by omega, by omega⟩, ?_⟩
    rw [show ((t.length : Int) - ((t.length : Int) - (g.length : Int))).toNat = g.length by omega, show ((t.length : Int) - (g.length : Int)) = ((t.length - g.length : Nat) : Int) by omega]
    refine for_range (lo := ((t.length - g.length : Nat) : Int)) (n := g.length) (fun i σ H' => ∃ (v5 : Option V), H' = H4 ∧ σ = [some (.ref a), some (.ref b), some (.int (t.length : Nat)), some (.int (g.length : Nat)), some (.ref z), v5, none, none, none])
      ⟨_, rfl, rfl⟩ ?_ ?_
    · rintro i σ H5 hi ⟨v5, rfl, rfl⟩
      have e1 : ((t.length - g.length : Nat) : Int) + (i : Int) = ((t.length - g.length + i : Nat) : Int) := by omega
      rw [e1]
      have em : (((t.length - g.length + i : Nat) : Int)).fmod (g.length : Int) = (((t.length - g.length + i) % g.length : Nat) : Int) := by
        rw [Int.fmod_eq_emod_of_nonneg _ (by omega)]
        rfl
      have nz := nf.zero (n := t.length - g.length + i) (by omega) (by omega)
      refine ⟨_, rfl, _, rfl, _, _, _, _, rfl, rfl, ha4, at_tv rfl (by omega), rfl, _, rfl, ?_⟩
      cases ev : tv t (t.length - g.length + i) with
      | none =>
        refine iteT ?_
        refine ⟨_, rfl, _, rfl, _, rfl, _, rfl, _, _, rfl, rfl, by omega, _, _, _, _, rfl, rfl, hb4, at_sv em (Nat.mod_lt _ (by omega)), ?_⟩
        rw [nz ev]
        exact ⟨rfl, _, rfl, iteF ⟨_, rfl, rfl⟩⟩
      | some x => exact iteF ⟨_, rfl, rfl⟩
    · rintro σ H5 ⟨v5, rfl, rfl⟩
      refine ⟨fun σ' H' => ∃ (v6 v7 : Option V), H' = H5 ∧ σ' = [some (.ref a), some (.ref b), some (.int (t.length : Nat)), some (.int (g.length : Nat)), some (.ref z), v5, v6, v7, none], ?_, ?_⟩
      · refine ⟨_, rfl, _, rfl, _, _, rfl, rfl, _, rfl, ?_⟩
        refine ite2 (fun c => ?_) (fun c => ⟨_, _, rfl, rfl⟩)
        have c : (g.length : Int) < (t.length : Int) := of_decide_eq_true c
        have fw := nf.few (by omega)
        have em : ((t.length : Int) - 1).fmod (g.length : Int) = (((t.length - 1) % g.length : Nat) : Int) := by
          rw [show (t.length : Int) - 1 = ((t.length - 1 : Nat) : Int) by omega, Int.fmod_eq_emod_of_nonneg _ (by omega)]
          rfl
        refine ⟨_, rfl, _, rfl, _, _, rfl, rfl, _, rfl, _, _, rfl, rfl, _, _, _, _, rfl, rfl, ha4, at_tv (k := t.length - 1 - g.length) (by omega) (by omega), ?_⟩
        refine ⟨_, rfl, _, rfl, _, _, rfl, rfl, _, _, _, _, rfl, rfl, ha4, at_tv (k := t.length - 1) (by omega) (by omega), ?_⟩
        refine ⟨_, _, rfl, ?_⟩
        cases e1 : tv t (t.length - 1 - g.length) with
        | none =>
          cases e2 : tv t (t.length - 1) with
          | none =>
            rw [e1, e2] at fw
            cases fw
          | some y1 =>
            refine ⟨_, rfl, rfl, _, rfl, iteT ?_⟩
            refine ⟨_, rfl, rfl, _, rfl, iteF ?_⟩
            refine ⟨_, rfl, rfl, _, rfl, iteF ?_⟩
            exact ⟨_, _, rfl, rfl⟩
        | some x1 =>
          refine ⟨_, rfl, rfl, _, rfl, iteF ?_⟩
          refine ⟨_, rfl, rfl, _, rfl, iteT ?_⟩
          cases e2 : tv t (t.length - 1) with
          | none =>
            refine ⟨_, rfl, rfl, _, rfl, iteF ?_⟩
            exact ⟨_, _, rfl, rfl⟩
          | some y1 =>
            refine ⟨_, rfl, rfl, _, rfl, iteT ?_⟩
            refine ⟨_, rfl, _, rfl, _, _, rfl, rfl, ?_⟩
            refine ⟨_, rfl, _, rfl, _, _, rfl, rfl, _, rfl, _, rfl, _, _, rfl, rfl, by omega, _, _, _, _, rfl, rfl, hb4, at_sv em (Nat.mod_lt _ (by omega)), ?_⟩
            refine ⟨rfl, _, rfl, ?_⟩
            rw [e1, e2] at fw
            have fw : decide (some y1 = some (x1 + sv g ((t.length - 1) % g.length))) = false := fw
            have : ¬ y1 - x1 = sv g ((t.length - 1) % g.length) := fun z => by
              have := of_decide_eq_false fw
              exact this (by congr 1; omega)
            rw [decide_eq_false (fun z => this (V.int.inj z))]
            exact iteF ⟨_, _, rfl, rfl⟩
      · rintro σ H6 ⟨v6, v7, rfl, rfl⟩
        dsimp only [tRet, tOp, tLc, tCB, tCons]
        refine ⟨_, rfl, _, _, rfl, ⟨by decide, by decide, by omega, by omega⟩, fun D hD => ?_⟩
        rw [show ((g.length : Int) - 1).toNat = g.length - 1 by omega]
        refine lc_range (fun j H' => H' D = some (.lst []) ∧ Same H6 H') ⟨upd_same, Same.new hD⟩ ?_ ?_
        · rintro j H7 hj ⟨gL, s7⟩
          have e1 : (1 : Int) + (j : Int) = ((j + 1 : Nat) : Int) := by omega
          have em : ((g.length : Int)).fmod ((1 : Int) + (j : Int)) = ((g.length % (j + 1) : Nat) : Int) := by
            rw [e1, Int.fmod_eq_emod_of_nonneg _ (by omega)]
            rfl
          refine ⟨rfl, ?_⟩
          refine ⟨_, rfl, _, rfl, _, rfl, _, _, rfl, rfl, by omega, rfl, _, rfl, ?_⟩
          refine ite2 (fun c => ?_) (fun c => ?_)
          rotate_left
          · exact iteF ⟨gL, s7⟩
          have c : decide (V.int ((g.length : Int).fmod ((1 : Int) + (j : Int))) = V.int 0) = true := c
          rw [em] at c
          have dv : (j + 1) ∣ g.length := by
            have : V.int ((g.length % (j + 1) : Nat) : Int) = V.int 0 := of_decide_eq_true c
            have := V.int.inj this
            exact Nat.dvd_of_mod_eq_zero (by omega)
          refine ⟨_, rfl, _, rfl, z, l1, l2, t, g, j + 1, (by rw [← e1]; rfl), hp.same s7, g1, g2, gt, tl, by omega, by omega, sg, fun r H8 s8 hr => ⟨r, rfl, ?_⟩⟩
          have hF : valR t g = F := funext nf.val
          cases r with
          | true => exact absurd (by rw [← hF]; exact hr rfl) (nf.noRep (d := j + 1) (by omega) dv (by omega))
          | false => exact iteF ⟨s8 _ _ gL, s7.trans s8⟩
        · rintro H7 ⟨gL, s7⟩
          refine ⟨by decide, fun D3 hD3 => ?_⟩
          refine ⟨_, _, .lst (SqL.of (upd_new hD3 gL)) .nil, .lst (SqL.of upd_same) .nil, rfl, rfl, ?_⟩
          rw [show PyData.eqv (.list []) (.list []) = true by simp [PyData.eqv, PyData.eqvAll]]
          exact k _ (s4.trans (s7.trans (Same.new hD3)))
end
end KG
namespace KG
open PySem L2
/-- gains of several periods as one: free where the growth ends in None -/
def WideOf (T : List (Option Int)) (G : List Int) (times more : Nat) (G2 : List Int) : Prop := G2.length = times * G.length ∧
  ∀ n, more - times * G.length ≤ n → n < more → valR T G n ≠ none → sv G2 (n % (times * G.length)) = (times : Int) * sv G (n % G.length)
/-- told by the values themselves -/
def vals (F : Nat → Option Int) (n : Nat) : List (Option Int) := (List.range n).map F
theorem wide_val {T : List (Option Int)} {G G2 : List Int} {times more : Nat} (g1 : 1 ≤ G.length) (gt : G.length ≤ T.length) (t1 : 1 ≤ times) (hm : T.length + (times - 1) * G.length ≤ more) (h : WideOf T G times more G2) (n : Nat) :
    valR (vals (valR T G) more) G2 n = valR T G n := by
  obtain ⟨hl, hg⟩ := h
  have lv : (vals (valR T G) more).length = more := by
    unfold vals
    rw [List.length_map, List.length_range]
  have R := rate_of (T := T) (G := G) g1 gt
  obtain ⟨k, rfl⟩ : ∃ k, times = k + 1 := ⟨times - 1, by omega⟩
  have eN : (k + 1) * G.length = k * G.length + G.length := Nat.succ_mul _ _
  have hm : T.length + k * G.length ≤ more := hm
  have N1 : 1 ≤ (k + 1) * G.length := by omega
  induction n using Nat.strongRecOn with
  | _ n ih =>
    rcases Nat.lt_or_ge n more with z | z
    · rw [valR_told (by omega)]
      exact tv_range _ z
    · have h0 := valR_far (T := vals (valR T G) more) (G := G2) (by omega) (by omega) (n := n - (k + 1) * G.length) (by omega)
      have f1 := R.far (n := n - (k + 1) * G.length) (by omega) (k + 1)
      rw [hl, show n - (k + 1) * G.length + (k + 1) * G.length = n by omega, ih (n - (k + 1) * G.length) (by omega)] at h0
      rw [Nat.mul_comm G.length, show n - (k + 1) * G.length + (k + 1) * G.length = n by omega] at f1
      rw [h0, f1.1]
      cases ev : valR T G (n - (k + 1) * G.length) with
      | none => rfl
      | some x =>
        simp only [Option.map_some]
        congr 1
        -- the rest's last place
        have md := Nat.mod_add_div (n - (k + 1) * G.length - (more - (k + 1) * G.length)) ((k + 1) * G.length)
        have ml := Nat.mod_lt (n - (k + 1) * G.length - (more - (k + 1) * G.length)) (show 0 < (k + 1) * G.length by omega)
        generalize hr : (n - (k + 1) * G.length - (more - (k + 1) * G.length)) % ((k + 1) * G.length) = r at md ml
        generalize (n - (k + 1) * G.length - (more - (k + 1) * G.length)) / ((k + 1) * G.length) = q at md
        have en : n - (k + 1) * G.length = more - (k + 1) * G.length + r + (k + 1) * G.length * q := by omega
        have f2 := R.far (n := more - (k + 1) * G.length + r) (by omega) ((k + 1) * q)
        rw [show G.length * ((k + 1) * q) = (k + 1) * G.length * q by rw [← Nat.mul_assoc, Nat.mul_comm G.length], ← en] at f2
        have nn : valR T G (more - (k + 1) * G.length + r) ≠ none := fun y => by
          rw [f2.1, y] at ev
          cases ev
        have s := hg (more - (k + 1) * G.length + r) (by omega) (by omega) nn
        have m1 : (n - (k + 1) * G.length) % ((k + 1) * G.length) = (more - (k + 1) * G.length + r) % ((k + 1) * G.length) := by
          rw [en, Nat.add_mul_mod_self_left]
        have m2 : (n - (k + 1) * G.length) % G.length = (more - (k + 1) * G.length + r) % G.length := by
          rw [en, Nat.mul_comm (k + 1), Nat.mul_assoc, Nat.add_mul_mod_self_left, Nat.mul_comm G.length]
        rw [m1, s, ← m2]
        have c : cAt T G (n - (k + 1) * G.length) = sv G ((n - (k + 1) * G.length) % G.length) := by
          have a1 := R.go (n - (k + 1) * G.length) (by omega)
          have a2 := valR_far g1 gt (n := n - (k + 1) * G.length) (by omega)
          rw [a1, ev] at a2
          simp only [Option.map_some, Option.some.injEq] at a2
          omega
        rw [c]
        try rfl
end KG
namespace KG
open PySem L2
def repG (k : Nat) (L : List Int) : List Int := (List.replicate k L).flatten
theorem repG_len (L : List Int) : ∀ k, (repG k L).length = k * L.length
  | 0 => by simp [repG]
  | k + 1 => by
    have := repG_len L k
    unfold repG at this ⊢
    rw [List.replicate_succ, List.flatten_cons, List.length_append, this, Nat.succ_mul]
    omega
theorem repG_sv (L : List Int) : ∀ k i, i < k * L.length → sv (repG k L) i = sv L (i % L.length)
  | 0, i, h => by simp at h
  | k + 1, i, h => by
    have e : repG (k + 1) L = L ++ repG k L := by
      unfold repG
      rw [List.replicate_succ, List.flatten_cons]
    rw [e]
    rcases Nat.lt_or_ge i L.length with z | z
    · rw [Nat.mod_eq_of_lt z]
      simp [sv, List.getD_eq_getElem?_getD, List.getElem?_append_left z]
    · have ih := repG_sv L k (i - L.length) (by rw [Nat.succ_mul] at h; omega)
      have em : i % L.length = (i - L.length) % L.length := by
        rw [← Nat.add_mod_right (i - L.length), show i - L.length + L.length = i by omega]
      rw [em, ← ih]
      simp [sv, List.getD_eq_getElem?_getD, List.getElem?_append_right z]
theorem repG_mem {L : List Int} {k : Nat} {v : Int} (h : v ∈ repG k L) : v ∈ L := by
  unfold repG at h
  obtain ⟨l, hl, hv⟩ := List.mem_flatten.mp h
  rw [(List.mem_replicate.mp hl).2] at hv
  exact hv
theorem mulG_sv (k : Int) (G : List Int) (i : Nat) : sv (mulG k G) i = sv G i * k := by
  unfold sv mulG
  rw [List.getD_eq_getElem?_getD, List.getD_eq_getElem?_getD, List.getElem?_map]
  cases G[i]? <;> simp
theorem wide0 {T : List (Option Int)} {G : List Int} {k more : Nat} (g1 : 1 ≤ G.length) (k1 : 1 ≤ k) : WideOf T G k more (repG k (mulG (k : Int) G)) := by
  have lG : (mulG (k : Int) G).length = G.length := List.length_map _
  refine ⟨by rw [repG_len, lG], fun n _ _ _ => ?_⟩
  have N1 : 1 * 1 ≤ k * G.length := Nat.mul_le_mul k1 g1
  rw [repG_sv _ _ _ (by rw [lG]; exact Nat.mod_lt _ (by omega)), mulG_sv, lG, Nat.mod_mod_of_dvd _ (Nat.dvd_mul_left _ _), Int.mul_comm]
theorem sv_set {L : List Int} {i j : Nat} {v : Int} (h : i < L.length) : sv (L.set i v) j = if i = j then v else sv L j := by
  unfold sv
  rw [List.getD_eq_getElem?_getD, List.getD_eq_getElem?_getD, List.getElem?_set]
  split
  · rename_i e
    subst e
    rfl
  · rfl
theorem PenAt.same {H H' : Hp} {p c : Addr} {ns : List Int} {n : Nat} (h : PenAt H p c ns n) (s : Same H H') : PenAt H' p c ns n :=
  let ⟨t, g, a, b, r⟩ := h
  ⟨t, g, s _ _ a, s _ _ b, r⟩
theorem wide_set {T : List (Option Int)} {G L : List Int} {k more n0 : Nat} {v : Int} (h : WideOf T G k more L) (hN : k * G.length ≤ more) (h0 : more - k * G.length ≤ n0) (h1 : n0 < more) (hn : valR T G n0 = none) :
    WideOf T G k more (L.set (n0 % (k * G.length)) v) := by
  refine ⟨by rw [List.length_set]; exact h.1, fun n a b c => ?_⟩
  have N1 : 0 < k * G.length := by omega
  rw [sv_set (by rw [h.1]; exact Nat.mod_lt _ N1)]
  split
  · rename_i e
    exfalso
    have d1 := Nat.mod_add_div n0 (k * G.length)
    have d2 := Nat.mod_add_div n (k * G.length)
    rw [e] at d1
    have : n = n0 := by
      rcases Nat.lt_trichotomy (n / (k * G.length)) (n0 / (k * G.length)) with z | z | z
      · have : k * G.length * (n / (k * G.length) + 1) ≤ k * G.length * (n0 / (k * G.length)) := Nat.mul_le_mul_left _ z
        rw [Nat.mul_succ] at this
        omega
      · rw [z] at d2
        omega
      · have : k * G.length * (n0 / (k * G.length) + 1) ≤ k * G.length * (n / (k * G.length)) := Nat.mul_le_mul_left _ z
        rw [Nat.mul_succ] at this
        omega
    rw [this] at c
    exact c hn
  · exact h.2 n a b c
theorem ixN_nat {n i : Nat} (h : i < n) : ixN n (i : Int) = some i := by
  unfold ixN
  rw [if_pos (by omega), if_pos (by omega)]
  simp
section
variable {P : Program} {w : World} {K : PySem.W.Frag} {mg : Str → Option Value} {base : Heap}
def spLLong : Sp := fun vs H Q _ => ∃ (p c z a b : Addr) (ns : List Int) (n : Nat) (T : List (Option Int)) (G : List Int), vs = [.ref p, .ref z] ∧ PenAt H p c ns n ∧ ns.length ≤ 63 ∧ n + 60 < 1000000 ∧
  PairAt H z a b T G ∧ z ≠ p ∧ a ≠ p ∧ b ≠ p ∧ 1 ≤ G.length ∧ G.length ≤ 6 ∧ G.length ≤ T.length ∧ T.length ≤ 9 ∧ (∀ v ∈ G, -3 ≤ v ∧ v ≤ 4) ∧
  ∀ (z2 a2 b2 : Addr) (times more : Nat) (G2 : List Int) (n' : Nat) (H' : Hp), PairAt H' z2 a2 b2 (vals (valR T G) more) G2 → WideOf T G times more G2 → 1 ≤ times → times ≤ 3 → T.length + (times - 1) * G.length ≤ more → more ≤ 40 →
    (∀ v ∈ G2, -20 ≤ v ∧ v ≤ 20) → PenAt H' p c ns n' → n' ≤ n + 60 → But p H H' → z2 ≠ p → a2 ≠ p → b2 ≠ p → Q (.ref z2) H'
theorem kp_llong (T : Txt K mg) : Kf P w K mg base 2 "_law_longer" ["_law_pen_here", "_law_pair"] spLLong := by
  refine T.d_llonger.okF sc_llonger (fun vs H Q E h => ?_) (fun f cdv A outer s H vs Q E hA hr h => ?_)
  · obtain ⟨p, c, z, a, b, ns, n, t, g, rfl, _⟩ := h
    rfl
  · obtain ⟨p, c, z, a, b, ns, n, t, g, rfl, hpen, hlen, hn, hp, zp, ap, bp, g1, g6, gt, t9, hg, k⟩ := h
    refine ⟨_, (pss_cons (ps_asg (pv 1) (pg_tup rfl (pgs_cons (pg_name (i := 2) sc_llonger.nd rfl (Or.inl rfl)) (pgs_cons (pg_name (i := 3) sc_llonger.nd rfl (Or.inl rfl)) pgs_nil))))
 (pss_cons (ps_set (i := 4) sc_llonger.nd rfl (Or.inr rfl) (pe_op op_add (pe_int) (pe_kf (kp_draw T) hA hr (by rfl) (pa_cons (pv 0) (pa_cons (pe_int) pa_nil)))))
 (pss_cons (ps_set (i := 5) sc_llonger.nd rfl (Or.inl rfl) (pe_op op_add (pe_op op_add (pe_callB call_len (by rfl) (T.nb _ (by decide)) PySem.boot_len (pa_cons (pv 2) pa_nil)) (pe_kf (kp_draw T) hA hr (by rfl) (pa_cons (pv 0) (pa_cons (pe_int) pa_nil)))) (pe_op op_mulW' (pe_op op_sub (pv 4) (pe_int)) (pe_callB call_len (by rfl) (T.nb _ (by decide)) PySem.boot_len (pa_cons (pv 3) pa_nil)))))
 (pss_cons (ps_set (i := 6) sc_llonger.nd rfl (Or.inr rfl) (pe_op op_rep (pe_lc (own := [("_law_gain", 9)]) (g := gName 9) (tt := tYes) rfl sc_llonger.nd (pi_list (pv 3)) (blkOk_by (N := n_llonger) (sc := defScope s_llonger) (by decide +kernel)) (fun _ _ _ _ _ => pg_name (i := 9) sc_llonger.nd rfl (Or.inl rfl)) (fun _ _ _ _ _ => pts_nil) (fun _ _ _ _ _ => (pe_op op_mulW' (pv 4) (pv 9)))) (pv 4)))
 (pss_cons (ps_for PassesOwn.never rfl (pi_range1 (by rfl) (T.nb _ (by decide)) (pa_cons (pe_callB (call_len : CallR _ _ (rLen K)) (by rfl) (T.nb _ (by decide)) PySem.boot_len (pa_cons (pv 6) pa_nil)) pa_nil)) (pg_name (i := 7) sc_llonger.nd rfl (Or.inr rfl))
 (pss_cons (ps_set (i := 8) sc_llonger.nd rfl (Or.inl rfl) (pe_ix (ix_list : IxR _ (rIxL K)) (pe_lc (own := [("_law_n", 10)]) (g := gName 10) rfl sc_llonger.nd (pi_range2 (by rfl) (T.nb _ (by decide)) (pa_cons (pe_op op_sub (pv 5) (pe_callB (call_len : CallR _ _ (rLen K)) (by rfl) (T.nb _ (by decide)) PySem.boot_len (pa_cons (pv 6) pa_nil))) (pa_cons (pv 5) pa_nil))) (blkOk_by (N := n_llonger) (sc := defScope s_llonger) (by decide +kernel)) (fun _ _ _ _ _ => pg_name (i := 10) sc_llonger.nd rfl (Or.inl rfl)) (fun _ _ _ _ _ => (pts_one (pt_cmpR op_eq (pe_op op_modN (pe_callTy call_intI (by rfl) (T.nb _ (by decide)) (by decide +kernel) (pa_cons (pv 10) pa_nil)) (pe_callB (call_len : CallR _ _ (rLen K)) (by rfl) (T.nb _ (by decide)) PySem.boot_len (pa_cons (pv 6) pa_nil))) (pv 7) (nomark _)))) (fun _ _ _ _ _ => (pv 10))) (pe_int) (fun _ _ => rfl)))
 (pss_one (ps_if (PW.pt (pw_and (pt_cmpR op_isN (pe_kf (kp_lat T) hA hr (by rfl) (pa_cons (pv 1) (pa_cons (pv 8) pa_nil))) (pe_non) (nomark _)) (pw_and1 (pt_cmpR op_eq (pe_kf (kp_draw T) hA hr (by rfl) (pa_cons (pv 0) (pa_cons (pe_int) pa_nil))) (pe_int) (nomark _)))))
 (pss_one (ps_asg (pe_kf (kp_draw T) hA hr (by rfl) (pa_cons (pv 0) (pa_cons (pe_int) pa_nil))) (pg_sub (pv 6) (pv 7) set_list))) pss_nil))))
 (pss_one (ps_ret (pe_tup (pa_cons (pe_lc (own := [("_law_n", 10)]) (g := gName 10) (tt := tYes) rfl sc_llonger.nd (pi_range1 (by rfl) (T.nb _ (by decide)) (pa_cons (pv 5) pa_nil)) (blkOk_by (N := n_llonger) (sc := defScope s_llonger) (by decide +kernel)) (fun _ _ _ _ _ => pg_name (i := 10) sc_llonger.nd rfl (Or.inl rfl)) (fun _ _ _ _ _ => pts_nil) (fun _ _ _ _ _ => (pe_kf (kp_lat T) hA hr (by rfl) (pa_cons (pv 1) (pa_cons (pv 10) pa_nil))))) (pa_cons (pv 6) pa_nil)))))))))), ?_⟩
    have sg : SmG g := fun v hv => by
      have := hg v hv
      omega
    obtain ⟨hz, ha, hb⟩ := id hp
    dsimp only [tSeq, tAsg, tNext, tRet, tCons, tCB]
    refine ⟨_, rfl, z, _, rfl, SqT.of hz, rfl, _, _, rfl, _, _, rfl, rfl, ?_⟩
    refine ⟨_, rfl, p, c, 3, ns, n, rfl, hpen, hlen, by decide, by decide, by omega, fun r1 H1 ra rb hpen1 b1 => ?_⟩
    refine ⟨_, _, rfl, rfl, ?_⟩
    have hp1 : PairAt H1 z a b t g := ⟨b1 _ zp _ hz, b1 _ ap _ ha, b1 _ bp _ hb⟩
    refine ⟨_, rfl, _, _, rfl, len_lst hp1.2.1, _, rfl, p, c, 9, ns, n + 1, rfl, hpen1, hlen, by decide, by decide, by omega, fun r2 H2 r2a r2b hpen2 b2 => ?_⟩
    have hp2 : PairAt H2 z a b t g := ⟨b2 _ zp _ hp1.1, b2 _ ap _ hp1.2.1, b2 _ bp _ hp1.2.2⟩
    obtain ⟨k0, rfl⟩ := Int.eq_ofNat_of_zero_le ra
    obtain ⟨m0, rfl⟩ := Int.eq_ofNat_of_zero_le r2a
    have fr2 : But p H H2 := But.trans b1 b2
    generalize hmore : t.length + m0 + k0 * g.length = more
    have et : (1 : Int) + (k0 : Int) = ((k0 + 1 : Nat) : Int) := by omega
    have km : k0 * g.length ≤ 2 * 6 := Nat.mul_le_mul (by omega) g6
    have kn : (k0 + 1) * g.length = k0 * g.length + g.length := Nat.succ_mul _ _
    have kn6 : (k0 + 1) * g.length ≤ 3 * 6 := Nat.mul_le_mul (by omega) g6
    rw [List.length_map]
    refine ⟨_, _, rfl, rfl, _, rfl, _, _, rfl, rfl, _, rfl, _, _, rfl, len_lst hp2.2.2, ?_⟩
    rw [List.length_map]
    refine ⟨_, _, rfl, rfl, .inr (by constructor <;> omega), fun zz hzz => ?_⟩
    refine ⟨_, _, rfl, rfl, ?_⟩
    have ez : (t.length : Int) + (m0 : Int) + zz = (more : Int) := by
      rw [hzz, ← hmore, show (1 : Int) + (k0 : Int) - 1 = (k0 : Int) by omega, ← Int.natCast_mul]
      omega
    subst hzz
    dsimp only [gName]
    rw [ez, et]
    refine ⟨_, rfl, b, rfl, ⟨_, SqL.of hp2.2.2⟩, ?_⟩
    intro D hD
    refine lc_it (walk_list (a := b) (xs := g.map V.int)) (fun i H' => Same H2 H' ∧ H' D = some (.lst ((mulG ((k0 + 1 : Nat) : Int) (g.take i)).map V.int))) ⟨Same.new hD, upd_same⟩ (fun _ _ _ q => SqL.of (q.1 _ _ hp2.2.2)) ?_ ?_
    · rintro i xv B1 B2 hi ⟨sm, gD⟩ ⟨rfl, hx⟩
      rw [List.length_map] at hi
      rw [List.getElem?_map, List.getElem?_eq_getElem hi] at hx
      obtain rfl := Option.some.inj hx
      refine ⟨rfl, yes_run ?_⟩
      refine ⟨_, rfl, _, rfl, _, _, rfl, rfl, .inl (by constructor <;> omega), fun z0 hz0 => ?_⟩
      subst hz0
      refine ⟨_, gD, ?_, fun b o eb => upd_oth (fun z => by rw [z, hD] at eb; cases eb) (sm _ _ eb), ?_⟩
      · unfold mulG
        rw [List.length_map, List.length_map, List.length_take]
        exact Nat.lt_of_le_of_lt (Nat.min_le_left _ _) (Nat.lt_of_lt_of_le hi (Nat.le_trans g6 (by decide)))
      · rw [upd_same, List.take_add_one, List.getElem?_eq_getElem hi]
        simp only [mulG, List.map_append, Option.toList, List.map_cons, List.map_nil, Int.mul_comm]
    · rintro B1 ⟨sm, gD⟩
      rw [List.length_map, List.take_length] at gD
      have lG : (mulG ((k0 + 1 : Nat) : Int) g).length = g.length := List.length_map _
      refine ⟨_, rfl, D, ((k0 + 1 : Nat) : Int), _, rfl, rfl, gD, by omega, by omega, ?_, fun W hW => ?_⟩
      · rw [List.length_map, lG, Int.toNat_natCast, Nat.mul_comm]
        exact Nat.le_trans kn6 (by decide)
      have hp3 := hp2.same sm
      rw [Int.toNat_natCast, show (List.replicate (k0 + 1) ((mulG ((k0 + 1 : Nat) : Int) g).map V.int)).flatten = (repG (k0 + 1) (mulG ((k0 + 1 : Nat) : Int) g)).map V.int by
        unfold repG
        rw [List.map_flatten, List.map_replicate]]
      have sW : Same B1 (upd B1 W (.lst ((repG (k0 + 1) (mulG ((k0 + 1 : Nat) : Int) g)).map V.int))) := Same.new hW
      have gW : upd B1 W (.lst ((repG (k0 + 1) (mulG ((k0 + 1 : Nat) : Int) g)).map V.int)) W = some (.lst ((repG (k0 + 1) (mulG ((k0 + 1 : Nat) : Int) g)).map V.int)) := upd_same
      have pen3 := PenAt.upd (PenAt.same hpen2 sm) (PenAt.ne (PenAt.same hpen2 sm) hW).1 (PenAt.ne (PenAt.same hpen2 sm) hW).2 (o := .lst ((repG (k0 + 1) (mulG ((k0 + 1 : Nat) : Int) g)).map V.int))
      have hW0 : H W = none := But.free (But.trans fr2 (But.of sm)) hW (PenAt.ne (PenAt.same hpen2 sm) hW).1
      have nWp := (PenAt.ne (PenAt.same hpen2 sm) hW).1
      have nWc := (PenAt.ne (PenAt.same hpen2 sm) hW).2
      have fr3 : But p H (upd B1 W (.lst ((repG (k0 + 1) (mulG ((k0 + 1 : Nat) : Int) g)).map V.int))) := But.trans fr2 (But.of (sm.trans sW))
      have w0 : WideOf t g (k0 + 1) more (repG (k0 + 1) (mulG ((k0 + 1 : Nat) : Int) g)) := wide0 g1 (by omega)
      have bd0 : ∀ v ∈ repG (k0 + 1) (mulG ((k0 + 1 : Nat) : Int) g), -20 ≤ v ∧ v ≤ 20 := fun v hv => by
        obtain ⟨u, hu, rfl⟩ := List.mem_map.mp (repG_mem hv)
        have := hg u hu
        have hk : k0 = 0 ∨ k0 = 1 ∨ k0 = 2 := by omega
        rcases hk with rfl | rfl | rfl <;> omega
      generalize repG (k0 + 1) (mulG ((k0 + 1 : Nat) : Int) g) = G0 at sW gW pen3 fr3 w0 bd0 ⊢
      generalize upd B1 W (.lst (G0.map V.int)) = H3 at sW gW pen3 fr3 ⊢
      have lW : G0.length = (k0 + 1) * g.length := w0.1
      refine ⟨_, rfl, _, _, rfl, len_lst gW, ?_⟩
      rw [List.length_map, lW]
      refine ⟨_, rfl, by omega, by omega, ?_⟩
      rw [Int.toNat_natCast]
      generalize hN : (k0 + 1) * g.length = N at kn kn6 lW ⊢
      have N1 : 1 ≤ N := by omega
      have Nm : N ≤ more := by omega
      refine for_range (lo := 0) (n := N) (fun i σ H' => ∃ (v7 v8 : Option V) (L : List Int) (n' : Nat), σ = [some (.ref p), some (.ref z), some (.ref a), some (.ref b), some (.int ((k0 + 1 : Nat) : Int)), some (.int (more : Nat)), some (.ref W), v7, v8, none, none] ∧
        H' W = some (.lst (L.map V.int)) ∧ WideOf t g (k0 + 1) more L ∧ (∀ v ∈ L, -20 ≤ v ∧ v ≤ 20) ∧ PenAt H' p c ns n' ∧ n' ≤ n + 2 + 2 * i ∧ But p H H')
        ⟨_, _, _, _, rfl, gW, w0, bd0, pen3, by omega, fr3⟩ ?_ ?_
      · rintro i σ H4 hi ⟨v7, v8, L, n4, rfl, gL, wL, bL, pen4, hn4, fr4⟩
        have lL : L.length = N := by rw [wL.1, hN]
        rw [Int.zero_add]
        dsimp only [tSeq, tAsg, tNext, tRet, tCons, tCB]
        refine ⟨_, rfl, _, rfl, _, _, rfl, len_lst gL, ?_⟩
        rw [List.length_map, lL]
        refine ⟨_, _, rfl, rfl, _, rfl, _, _, rfl, ⟨by omega, by omega, by omega, by omega⟩, fun D4 hD4 => ?_⟩
        rw [show ((more : Int) - ((more : Int) - (N : Int))).toNat = N by omega, show ((more : Int) - (N : Int)) = ((more - N : Nat) : Int) by omega]
        have hpz : PairAt H4 z a b t g := ⟨fr4 _ zp _ hz, fr4 _ ap _ ha, fr4 _ bp _ hb⟩
        refine lc_range (fun j H' => ∃ M : List Nat, H' D4 = some (.lst ((M.map (fun (y : Nat) => (y : Int))).map V.int)) ∧ Same H4 H' ∧ (∀ y ∈ M, more - N ≤ y ∧ y < more ∧ y % N = i) ∧ (∀ y, more - N ≤ y → y < more - N + j → y % N = i → M ≠ []) ∧ M.length ≤ j)
          ⟨[], upd_same, Same.new hD4, fun y h => absurd h List.not_mem_nil, fun y h1 h2 => by omega, Nat.le_refl _⟩ ?_ ?_
        · rintro j H5 hj ⟨M, gM, s5, hM, hM2, lM⟩
          have e1 : ((more - N : Nat) : Int) + (j : Int) = ((more - N + j : Nat) : Int) := by omega
          rw [e1]
          have em : (((more - N + j : Nat) : Int)).fmod (N : Int) = (((more - N + j) % N : Nat) : Int) := by
            rw [Int.fmod_eq_emod_of_nonneg _ (by omega)]
            rfl
          refine ⟨rfl, ?_⟩
          refine ⟨_, rfl, _, rfl, _, rfl, _, _, rfl, len_lst (s5 _ _ gL), ?_⟩
          rw [List.length_map, lL]
          refine ⟨_, _, rfl, rfl, by omega, _, rfl, rfl, _, rfl, ?_⟩
          refine ite2 (fun c => ?_) (fun c => ?_)
          · have c : decide (V.int ((((more - N + j : Nat) : Int)).fmod (N : Int)) = V.int (i : Int)) = true := c
            rw [em] at c
            have c := V.int.inj (of_decide_eq_true c)
            refine ⟨_, rfl, _, gM, ?_, M ++ [more - N + j], ?_, fun b o eb => upd_oth (fun z => by rw [z, hD4] at eb; cases eb) (s5 _ _ eb), ?_, fun y _ _ _ z => by simp at z, by rw [List.length_append]; exact Nat.succ_le_succ lM⟩
            · rw [List.length_map, List.length_map]
              exact Nat.lt_of_le_of_lt lM (Nat.lt_of_lt_of_le hj (Nat.le_trans (show N ≤ 100 by omega) (by decide)))
            · rw [upd_same, List.map_append, List.map_append]
              rfl
            · intro y hy
              rcases List.mem_append.mp hy with z | z
              · exact hM y z
              · rw [List.mem_singleton.mp z]
                exact ⟨by omega, by omega, by omega⟩
          · refine ⟨M, gM, s5, hM, fun y h1 h2 h3 => ?_, by omega⟩
            rcases Nat.lt_or_ge y (more - N + j) with z | z
            · exact hM2 y h1 z h3
            · exfalso
              have : y = more - N + j := by omega
              rw [this] at h3
              refine c ?_
              show decide (V.int ((((more - N + j : Nat) : Int)).fmod (N : Int)) = V.int (i : Int)) = true
              rw [em, h3]
              exact decide_eq_true rfl
        · rintro H5 ⟨M, gM, s5, hM, hM2, lM⟩
          have ne : M ≠ [] := by
            have md := Nat.mod_add_div (more - N) N
            have ml := Nat.mod_lt (more - N) (show 0 < N by omega)
            generalize (more - N) % N = r at md ml
            generalize (more - N) / N = q at md
            rcases Nat.lt_or_ge i r with z | z
            · refine hM2 (i + N * (q + 1)) ?_ ?_ (by rw [Nat.add_mul_mod_self_left, Nat.mod_eq_of_lt hi])
              · rw [Nat.mul_succ]; omega
              · rw [Nat.mul_succ]; omega
            · refine hM2 (i + N * q) (by omega) (by omega) (by rw [Nat.add_mul_mod_self_left, Nat.mod_eq_of_lt hi])
          obtain ⟨y0, M', rfl⟩ : ∃ y0 M', M = y0 :: M' := by
            cases M with
            | nil => exact absurd rfl ne
            | cons y M' => exact ⟨y, M', rfl⟩
          obtain ⟨h1, h2, h3⟩ := hM y0 List.mem_cons_self
          have h0 : atI (((y0 :: M').map (fun (y : Nat) => (y : Int))).map V.int) 0 = some (.int (y0 : Int)) := at_sv (t := (y0 :: M').map (fun (y : Nat) => (y : Int))) (k := 0) rfl (by simp)
          refine ⟨_, _, _, _, rfl, rfl, SqL.of gM, h0, ?_⟩
          have hp5 := hpz.same s5
          refine ⟨_, rfl, _, rfl, z, a, b, t, g, y0, rfl, hp5, g1, gt, by omega, by omega, sg, ?_⟩
          have gL5 := s5 _ _ gL
          have pen5 := PenAt.same pen4 s5
          have fr5 := But.trans fr4 (But.of (p := p) s5)
          have nW5 : W ≠ p := nWp
          cases ev : valR t g y0 with
          | some x => exact ⟨rfl, _, rfl, iteF ⟨_, _, L, n4, rfl, gL5, wL, bL, pen5, by omega, fr5⟩⟩
          | none =>
            refine ⟨rfl, _, rfl, iteT ?_⟩
            refine ⟨_, rfl, p, c, 2, ns, n4, rfl, pen5, hlen, by decide, by decide, by omega, fun r3 H6 ra3 rb3 pen6 b6 => ⟨rfl, _, rfl, ?_⟩⟩
            have gL6 := b6 _ nW5 _ gL5
            refine ite2 (fun c => ?_) (fun c => ⟨_, _, L, n4 + 1, rfl, gL6, wL, bL, pen6, by omega, But.trans fr5 b6⟩)
            refine ⟨_, rfl, p, _, 9, ns, n4 + 1, rfl, pen6, hlen, by decide, by decide, by omega, fun r4 H7 ra4 rb4 pen7 b7 => ?_⟩
            have gL7 := b7 _ nW5 _ gL6
            refine ⟨_, rfl, _, rfl, W, _, _, i, rfl, rfl, gL7, ixN_nat (by rw [List.length_map]; omega), ?_⟩
            refine ⟨_, _, L.set i r4, n4 + 2, rfl, ?_, ?_, ?_, ?_, by omega, ?_⟩
            · rw [upd_same, List.map_set]
            · rw [← h3, ← hN]
              exact wide_set wL (by omega) (by omega) h2 ev
            · intro v hv
              rcases List.mem_or_eq_of_mem_set hv with z | z
              · exact bL v z
              · omega
            · exact PenAt.upd pen7 nWp nWc
            · exact KG.But.fill hW0 (KG.But.trans (KG.But.trans fr5 b6) b7)
      · rintro σ H4 ⟨v7, v8, L, n4, rfl, gL, wL, bL, pen4, hn4, fr4⟩
        have hpz : PairAt H4 z a b t g := ⟨fr4 _ zp _ hz, fr4 _ ap _ ha, fr4 _ bp _ hb⟩
        dsimp only [tRet, tTup, tCons]
        refine ⟨_, rfl, _, rfl, by omega, by omega, fun D5 hD5 => ?_⟩
        rw [Int.toNat_natCast]
        refine lc_rng (r := fun i _ => some (vO (valR t g i))) (by show _ ≤ sizeLine; exact Nat.le_trans (show more ≤ 40 by omega) (by decide)) hD5 ?_ ?_
        · intro i H' hi hH Ky Kn hy _
          refine ⟨rfl, yes_run ?_⟩
          refine ⟨_, rfl, _, rfl, z, a, b, t, g, i, (by rw [Int.zero_add]; rfl), hpz.same hH, g1, gt, by omega, by omega, sg, ?_⟩
          exact hy _ rfl
        · have ev : fm (fun i _ => some (vO (valR t g i))) 0 (rngV 0 more) = (vals (valR t g) more).map vO := by
            rw [fm_idx _ (fun i => vO (valR t g i)) (fun _ _ => rfl), rngV_len]
            unfold vals
            rw [List.map_map]
            apply List.map_congr_left
            intro i _
            show vO (valR t g (0 + i)) = vO (valR t g i)
            rw [Nat.zero_add]
          rw [ev]
          have s5 : Same H4 (upd H4 D5 (.lst ((vals (valR t g) more).map vO))) := Same.new hD5
          have g5 : upd H4 D5 (.lst ((vals (valR t g) more).map vO)) D5 = some (.lst ((vals (valR t g) more).map vO)) := upd_same
          have n5 := (PenAt.ne pen4 hD5).1
          generalize upd H4 D5 (.lst ((vals (valR t g) more).map vO)) = H5 at s5 g5 ⊢
          refine ⟨_, rfl, (by show 2 ≤ sizeLine; decide), fun z2 hz2 => ?_⟩
          have pen5 := PenAt.same pen4 s5
          have n6 := (PenAt.ne pen5 hz2).1
          have s6 : Same H5 (upd H5 z2 (.tup [.ref D5, .ref W])) := Same.new hz2
          exact k z2 D5 W (k0 + 1) more L n4 _ ⟨upd_same, s6 _ _ g5, s6 _ _ (s5 _ _ gL)⟩ wL (by omega) (by omega) (by show t.length + k0 * g.length ≤ more; omega) (by omega) bL
            (PenAt.same pen5 s6) (by omega) (But.trans fr4 (But.of (s5.trans s6))) n6 n5 nWp
end
end KG
namespace KG
open PySem L2
theorem at_end {t : List (Option Int)} (h : 1 ≤ t.length) : atI (t.map vO) (-1) = some (vO (tv t (t.length - 1))) := by
  unfold atI ixN
  rw [List.length_map, if_neg (by omega), if_pos (by omega)]
  have e : (-1 + (t.length : Int)).toNat = t.length - 1 := by omega
  have e2 : ((t.length : Int) + -1).toNat = t.length - 1 := by omega
  have l : t.length - 1 < t.length := by omega
  simp [tv, List.getD_eq_getElem?_getD, e, e2, l, List.getElem?_eq_getElem l]
theorem tv_set {L : List (Option Int)} {i : Nat} {v : Option Int} (h : i < L.length) : tv (L.set i v) i = v := by
  unfold tv
  rw [List.getD_eq_getElem?_getD, List.getElem?_set, if_pos rfl, if_pos h]
  rfl
theorem vals_self {T : List (Option Int)} {G : List Int} : vals (valR T G) T.length = T := by
  apply List.ext_getElem
  · unfold vals
    rw [List.length_map, List.length_range]
  · intro i h1 h2
    have e : (vals (valR T G) T.length)[i] = valR T G i := by simp [vals]
    rw [e, valR_told h2]
    simp [tv, List.getD_eq_getElem?_getD, h2]
theorem vals_app (F : Nat → Option Int) (n m : Nat) : vals F (n + m) = vals F n ++ (List.range m).map fun i => F (n + i) := by
  unfold vals
  rw [List.range_add, List.map_append, List.map_map]
  rfl
theorem bent_gain {T : List (Option Int)} {G : List Int} {x : Int} (g1 : 1 ≤ G.length) (gt : G.length ≤ T.length) (h : tv T (T.length - 1) = some x) :
    valR T (G.set ((T.length - 1) % G.length) (sv G ((T.length - 1) % G.length) + 1)) (T.length - 1 + G.length) ≠ valR T G (T.length - 1 + G.length) := by
  have lr : (T.length - 1) % G.length < G.length := Nat.mod_lt _ (by omega)
  have lS : (G.set ((T.length - 1) % G.length) (sv G ((T.length - 1) % G.length) + 1)).length = G.length := List.length_set
  have h1 := valR_far g1 gt (n := T.length - 1) (by omega)
  have h2 := valR_far (T := T) (G := G.set ((T.length - 1) % G.length) (sv G ((T.length - 1) % G.length) + 1)) (by omega) (by omega) (n := T.length - 1) (by omega)
  rw [lS, sv_set lr, if_pos rfl] at h2
  rw [h1, h2, valR_told (by omega), valR_told (by omega), h]
  simp only [Option.map_some, ne_eq, Option.some.injEq]
  omega
theorem small_on {T : List (Option Int)} {G : List Int} (g1 : 1 ≤ G.length) (gt : G.length ≤ T.length) (sm : Sm T) (hg : ∀ v ∈ G, -3 ≤ v ∧ v ≤ 4) {n : Nat} (h : n < T.length + G.length) {v : Int} (hv : valR T G n = some v) : -12 ≤ v ∧ v ≤ 34 := by
  have told : ∀ m x, m < T.length → valR T G m = some x → -9 ≤ x ∧ x ≤ 30 := fun m x hm hx => by
    rw [valR_told hm] at hx
    have e : tv T m = T[m] := by simp [tv, List.getD_eq_getElem?_getD, hm]
    rw [e] at hx
    exact sm _ (List.getElem_mem hm) x hx
  rcases Nat.lt_or_ge n T.length with z | z
  · have := told n v z hv
    omega
  · have h1 := valR_far g1 gt (n := n - G.length) (by omega)
    rw [show n - G.length + G.length = n by omega, hv] at h1
    cases ev : valR T G (n - G.length) with
    | none => rw [ev] at h1; cases h1
    | some x =>
      rw [ev] at h1
      have h1 := Option.some.inj h1
      have h1 : v = x + sv G ((n - G.length) % G.length) := h1
      have h2 := told _ x (by omega) ev
      have lr : (n - G.length) % G.length < G.length := Nat.mod_lt _ (by omega)
      have e : sv G ((n - G.length) % G.length) = G[(n - G.length) % G.length] := by simp [sv, List.getD_eq_getElem?_getD, lr]
      have h3 := hg _ (List.getElem_mem lr)
      rw [← e] at h3
      omega
section
variable {P : Program} {w : World} {K : PySem.W.Frag} {mg : Str → Option Value} {base : Heap}
def spLBent : Sp := fun vs H Q _ => ∃ (p c z a b : Addr) (ns : List Int) (n : Nat) (T : List (Option Int)) (G : List Int), vs = [.ref p, .ref z] ∧ PenAt H p c ns n ∧ ns.length ≤ 63 ∧ n + 60 < 1000000 ∧
  PairAt H z a b T G ∧ z ≠ p ∧ a ≠ p ∧ b ≠ p ∧ 1 ≤ G.length ∧ G.length ≤ 6 ∧ G.length ≤ T.length ∧ T.length ≤ 9 ∧ Sm T ∧ (∀ v ∈ G, -3 ≤ v ∧ v ≤ 4) ∧
  ∀ (z2 a2 b2 : Addr) (T2 : List (Option Int)) (G2 : List Int) (n' : Nat) (H' : Hp), PairAt H' z2 a2 b2 T2 G2 → G2.length = G.length → G.length ≤ T2.length → T2.length ≤ 20 → (∃ m, valR T2 G2 m ≠ valR T G m) →
    (∀ o ∈ T2, ∀ v, o = some v → -50 ≤ v ∧ v ≤ 50) → (∀ v ∈ G2, -20 ≤ v ∧ v ≤ 20) → PenAt H' p c ns n' → n' ≤ n + 10 → But p H H' → z2 ≠ p → a2 ≠ p → b2 ≠ p → Q (.ref z2) H'
theorem kp_lbent (T : Txt K mg) : Kf P w K mg base 3 "_law_bent" ["_law_pen_here", "_law_pair"] spLBent := by
  refine T.d_lbent.okF sc_lbent (fun vs H Q E h => ?_) (fun f cdv A outer s H vs Q E hA hr h => ?_)
  · obtain ⟨p, c, z, a, b, ns, n, t, g, rfl, _⟩ := h
    rfl
  · obtain ⟨p, c, z, a, b, ns, n, t, g, rfl, hpen, hlen, hn, hp, zp, ap, bp, g1, g6, gt, t9, sm, hg, k⟩ := h
    refine ⟨_, (pss_cons (ps_asg (pe_tup (pa_cons (pe_callTy call_list_of (by rfl) (T.nb _ (by decide)) (by decide +kernel) (pa_cons (pe_ix (ix_tup : IxR _ (rIxT K)) (pv 1) (pe_int) (fun _ _ => rfl)) pa_nil)) (pa_cons (pe_callTy call_list_of (by rfl) (T.nb _ (by decide)) (by decide +kernel) (pa_cons (pe_ix (ix_tup : IxR _ (rIxT K)) (pv 1) (pe_int) (fun _ _ => rfl)) pa_nil)) pa_nil))) (pg_tup rfl (pgs_cons (pg_name (i := 2) sc_lbent.nd rfl (Or.inr rfl)) (pgs_cons (pg_name (i := 3) sc_lbent.nd rfl (Or.inl rfl)) pgs_nil))))
 (pss_cons (ps_set (i := 4) sc_lbent.nd rfl (Or.inl rfl) (pe_kf (kp_draw T) hA hr (by rfl) (pa_cons (pv 0) (pa_cons (pe_callB (call_len : CallR _ _ (rLen K)) (by rfl) (T.nb _ (by decide)) PySem.boot_len (pa_cons (pv 2) pa_nil)) pa_nil))))
 (pss_mid (ps_if (PW.pt (pw_and (pt_cmpR op_eq (pe_kf (kp_draw T) hA hr (by rfl) (pa_cons (pv 0) (pa_cons (pe_int) pa_nil))) (pe_int) (nomark _)) (pw_and1 (pt_cmpR op_notN (pe_ix (ix_list : IxR _ (rIxL K)) (pv 2) (pe_un un_neg (pe_int)) (fun _ _ => rfl)) (pe_non) (nomark _)))))
 (pss_cons (ps_asg (pe_op op_add (pe_ix (ix_list : IxR _ (rIxL K)) (pv 3) (pe_op op_modN (pe_callTy call_intI (by rfl) (T.nb _ (by decide)) (by decide +kernel) (pa_cons (pe_op op_sub (pe_callB (call_len : CallR _ _ (rLen K)) (by rfl) (T.nb _ (by decide)) PySem.boot_len (pa_cons (pv 2) pa_nil)) (pe_int)) pa_nil)) (pe_callB call_len (by rfl) (T.nb _ (by decide)) PySem.boot_len (pa_cons (pv 3) pa_nil))) (fun _ _ => rfl)) (pe_int)) (pg_sub (pv 3) (pe_op op_modN (pe_callTy call_intI (by rfl) (T.nb _ (by decide)) (by decide +kernel) (pa_cons (pe_op op_sub (pe_callB (call_len : CallR _ _ (rLen K)) (by rfl) (T.nb _ (by decide)) PySem.boot_len (pa_cons (pv 2) pa_nil)) (pe_int)) pa_nil)) (pe_callB call_len (by rfl) (T.nb _ (by decide)) PySem.boot_len (pa_cons (pv 3) pa_nil))) set_list))
 (pss_one (ps_ret (pe_tup (pa_cons (pv 2) (pa_cons (pv 3) pa_nil)))))) pss_nil)
 (pss_cons (ps_set (i := 2) sc_lbent.nd rfl (Or.inr rfl) (pe_op op_cat (pv 2) (pe_lc (own := [("_law_turn", 5)]) (g := gName 5) (tt := tYes) rfl sc_lbent.nd (pi_range1 (by rfl) (T.nb _ (by decide)) (pa_cons (pe_callB call_len (by rfl) (T.nb _ (by decide)) PySem.boot_len (pa_cons (pv 3) pa_nil)) pa_nil)) (blkOk_by (N := n_lbent) (sc := defScope s_lbent) (by decide +kernel)) (fun _ _ _ _ _ => pg_name (i := 5) sc_lbent.nd rfl (Or.inl rfl)) (fun _ _ _ _ _ => pts_nil) (fun _ _ _ _ _ => (pe_kf (kp_lat T) hA hr (by rfl) (pa_cons (pv 1) (pa_cons (pe_op op_add (pe_callB (call_len : CallR _ _ (rLen K)) (by rfl) (T.nb _ (by decide)) PySem.boot_len (pa_cons (pv 2) pa_nil)) (pv 5)) pa_nil)))))))
 (pss_cons (ps_asg (pe_ifExp (pt_cmpR op_isN (pe_ix (ix_list : IxR _ (rIxL K)) (pv 2) (pv 4) (fun _ _ => rfl)) (pe_non) (nomark _)) (pe_int) (pe_kf (kp_pick T) hA hr (by rfl) (pa_cons (pv 0) (pa_cons (pe_lst (pa_cons (pe_non) (pa_cons (pe_op op_add (pe_ix (ix_list : IxR _ (rIxL K)) (pv 2) (pv 4) (fun _ _ => rfl)) (pe_int)) pa_nil))) pa_nil)))) (pg_sub (pv 2) (pv 4) set_list))
 (pss_one (ps_ret (pe_tup (pa_cons (pv 2) (pa_cons (pv 3) pa_nil)))))))))), ?_⟩
    have sg : SmG g := fun v hv => by
      have := hg v hv
      omega
    obtain ⟨hz, ha, hb⟩ := id hp
    dsimp only [tSeq, tAsg, tNext, tRet, tCons, tCB]
    refine ⟨_, rfl, _, _, _, _, rfl, rfl, SqT.of hz, rfl, a, _, rfl, .inl (SqL.of ha), fun l1 hl1 => ?_⟩
    have s1 : Same H (upd H l1 (.lst (t.map vO))) := Same.new hl1
    have q1 : upd H l1 (.lst (t.map vO)) l1 = some (.lst (t.map vO)) := upd_same
    generalize upd H l1 (.lst (t.map vO)) = H1 at s1 q1 ⊢
    have hp1 := hp.same s1
    have hq10 := q1
    refine ⟨_, rfl, _, _, _, _, rfl, rfl, SqT.of hp1.1, rfl, b, _, rfl, .inl (SqL.of hp1.2.2), fun l2 hl2 => ?_⟩
    have s2 : Same H1 (upd H1 l2 (.lst (g.map V.int))) := Same.new hl2
    have q2 : upd H1 l2 (.lst (g.map V.int)) l2 = some (.lst (g.map V.int)) := upd_same
    have q1 := s2 _ _ q1
    generalize upd H1 l2 (.lst (g.map V.int)) = H2 at s2 q1 q2 ⊢
    have s2 := s1.trans s2
    refine ⟨(by show 2 ≤ sizeLine; decide), fun y hy => ?_⟩
    have s3 : Same H2 (upd H2 y (.tup [.ref l1, .ref l2])) := Same.new hy
    have gy : upd H2 y (.tup [.ref l1, .ref l2]) y = some (.tup [.ref l1, .ref l2]) := upd_same
    have q1 := s3 _ _ q1
    have q2 := s3 _ _ q2
    generalize upd H2 y (.tup [.ref l1, .ref l2]) = H3 at s3 gy q1 q2 ⊢
    have s3 := s2.trans s3
    obtain ⟨n1p, n1c⟩ := PenAt.ne hpen hl1
    have hl2' : H l2 = none := s1.free hl2
    obtain ⟨n2p, n2c⟩ := PenAt.ne hpen hl2'
    have n12 : l1 ≠ l2 := fun z => by
      rw [← z] at hl2
      rw [hq10] at hl2
      cases hl2
    have hp3 := hp.same s3
    have pen3 := PenAt.same hpen s3
    clear s1 s2 hp1
    refine ⟨y, _, rfl, SqT.of gy, rfl, _, _, rfl, _, _, rfl, rfl, ?_⟩
    dsimp only [tSeq, tAsg, tNext, tRet, tCons, tCB]
    refine ⟨_, rfl, _, rfl, _, _, rfl, len_lst q1, ?_⟩
    rw [List.length_map]
    refine ⟨p, c, (t.length : Int), ns, n, rfl, pen3, hlen, by omega, by omega, by omega, fun r1 H4 ra rb pen4 b4 => ?_⟩
    obtain ⟨at0, rfl⟩ := Int.eq_ofNat_of_zero_le ra
    have q1 := b4 _ n1p _ q1
    have q2 := b4 _ n2p _ q2
    have fr4 : But p H H4 := But.trans (But.of s3) b4
    have hp4 : PairAt H4 z a b t g := ⟨fr4 _ zp _ hz, fr4 _ ap _ ha, fr4 _ bp _ hb⟩
    refine ⟨fun σ' H' => ∃ n5 : Nat, n5 ≤ n + 2 ∧ PenAt H' p c ns n5 ∧ But p H H' ∧ H' l1 = some (.lst (t.map vO)) ∧ H' l2 = some (.lst (g.map V.int)) ∧
      σ' = [some (.ref p), some (.ref z), some (.ref l1), some (.ref l2), some (.int (at0 : Nat)), none], ?_, ?_⟩
    · refine ⟨_, rfl, p, c, 2, ns, n + 1, rfl, pen4, hlen, by decide, by decide, by omega, fun r2 H5 ra2 rb2 pen5 b5 => ⟨rfl, _, rfl, ?_⟩⟩
      have q1 := b5 _ n1p _ q1
      have q2 := b5 _ n2p _ q2
      have fr5 : But p H H5 := But.trans fr4 b5
      refine ite2 (fun cc => ?_) (fun cc => iteF ⟨n + 2, by omega, pen5, fr5, q1, q2, rfl⟩)
      refine ⟨_, rfl, _, rfl, _, _, _, _, rfl, rfl, SqL.of q1, at_end (by omega), rfl, _, rfl, ?_⟩
      cases ev : tv t (t.length - 1) with
      | none => exact iteF ⟨n + 2, by omega, pen5, fr5, q1, q2, rfl⟩
      | some x =>
        refine iteT ?_
        have em : ((((t.map vO).length : Nat) : Int) - 1).fmod (((g.map V.int).length : Nat) : Int) = (((t.length - 1) % g.length : Nat) : Int) := by
          rw [List.length_map, List.length_map, show (t.length : Int) - 1 = ((t.length - 1 : Nat) : Int) by omega, Int.fmod_eq_emod_of_nonneg _ (by omega)]
          rfl
        have lr : (t.length - 1) % g.length < g.length := Nat.mod_lt _ (by omega)
        have ng : (((g.map V.int).length : Nat) : Int) ≠ 0 := by
          rw [List.length_map]
          omega
        refine ⟨_, rfl, _, rfl, _, _, rfl, len_lst q1, _, _, rfl, rfl, _, rfl, _, rfl, _, _, rfl, len_lst q2, _, _, rfl, rfl, ng, _, _, _, _, rfl, rfl, SqL.of q2, at_sv em lr, _, _, rfl, rfl, ?_⟩
        refine ⟨_, rfl, _, rfl, _, _, rfl, len_lst q1, _, _, rfl, rfl, _, rfl, _, rfl, _, _, rfl, len_lst q2, _, _, rfl, rfl, ng, l2, _, _, (t.length - 1) % g.length, rfl, rfl, q2, (by rw [em]; exact ixN_nat (by rw [List.length_map]; exact lr)), ?_⟩
        have q1' : upd H5 l2 (.lst ((g.map V.int).set ((t.length - 1) % g.length) (.int (sv g ((t.length - 1) % g.length) + 1)))) l1 = some (.lst (t.map vO)) := upd_oth n12 q1
        have q2' : upd H5 l2 (.lst ((g.map V.int).set ((t.length - 1) % g.length) (.int (sv g ((t.length - 1) % g.length) + 1)))) l2 = some (.lst ((g.set ((t.length - 1) % g.length) (sv g ((t.length - 1) % g.length) + 1)).map V.int)) := by
          rw [upd_same, List.map_set]
        have pen6 := PenAt.upd pen5 n2p n2c (o := .lst ((g.map V.int).set ((t.length - 1) % g.length) (.int (sv g ((t.length - 1) % g.length) + 1))))
        have fr6 : But p H (upd H5 l2 (.lst ((g.map V.int).set ((t.length - 1) % g.length) (.int (sv g ((t.length - 1) % g.length) + 1))))) := KG.But.fill hl2' fr5
        have sme := @small_on t g g1 gt sm hg
        generalize upd H5 l2 (.lst ((g.map V.int).set ((t.length - 1) % g.length) (.int (sv g ((t.length - 1) % g.length) + 1)))) = H6 at q1' q2' pen6 fr6 ⊢
        refine ⟨_, rfl, _, rfl, (by show 2 ≤ sizeLine; decide), fun z2 hz2 => ?_⟩
        have s7 : Same H6 (upd H6 z2 (.tup [.ref l1, .ref l2])) := Same.new hz2
        refine k z2 l1 l2 t _ (n + 2) _ ⟨upd_same, s7 _ _ q1', s7 _ _ q2'⟩ List.length_set gt (by omega) ⟨_, bent_gain g1 gt ev⟩ (fun o ho v hv => ?_) (fun v hv => ?_) (PenAt.same pen6 s7) (by omega) (But.trans fr6 (But.of s7)) (PenAt.ne pen6 hz2).1 n1p n2p
        · have := sm o ho v hv
          omega
        · rcases List.mem_or_eq_of_mem_set hv with y | y
          · have := hg v y
            omega
          · have e : sv g ((t.length - 1) % g.length) = g[(t.length - 1) % g.length] := by simp [sv, List.getD_eq_getElem?_getD, lr]
            have := hg _ (List.getElem_mem lr)
            rw [← e] at this
            omega
    · rintro σ' H5 ⟨n5, hn5, pen5, fr5, q1, q2, rfl⟩
      have hp5 : PairAt H5 z a b t g := ⟨fr5 _ zp _ hz, fr5 _ ap _ ha, fr5 _ bp _ hb⟩
      dsimp only [tSeq, tAsg, tNext, tRet, tCons, tCB, tOp]
      refine ⟨_, rfl, _, rfl, _, _, rfl, len_lst q2, ?_⟩
      rw [List.length_map]
      refine ⟨_, rfl, by omega, by omega, fun D hD => ?_⟩
      rw [Int.toNat_natCast]
      refine lc_rng (r := fun i _ => some (vO (valR t g (t.length + i)))) (by show _ ≤ sizeLine; exact Nat.le_trans g6 (by decide)) hD ?_ ?_
      · intro i H' hi hH Ky Kn hy _
        refine ⟨rfl, yes_run ?_⟩
        refine ⟨_, rfl, _, rfl, _, _, rfl, len_lst (hH _ _ q1), _, rfl, _, _, rfl, rfl, z, a, b, t, g, t.length + i, ?_, hp5.same hH, g1, gt, by omega, by omega, sg, ?_⟩
        · rw [List.length_map]
          show [V.ref z, V.int ((t.length : Int) + (0 + (i : Int)))] = [V.ref z, V.int ((t.length + i : Nat) : Int)]
          congr 3
          omega
        · exact hy _ rfl
      · have ev : fm (fun i _ => some (vO (valR t g (t.length + i)))) 0 (rngV 0 g.length) = ((List.range g.length).map fun i => valR t g (t.length + i)).map vO := by
          rw [fm_idx _ (fun i => vO (valR t g (t.length + i))) (fun _ _ => rfl), rngV_len, List.map_map]
          apply List.map_congr_left
          intro i _
          show vO (valR t g (t.length + (0 + i))) = vO (valR t g (t.length + i))
          rw [Nat.zero_add]
        rw [ev]
        have s6 : Same H5 (upd H5 D (.lst (((List.range g.length).map fun i => valR t g (t.length + i)).map vO))) := Same.new hD
        have g6' : upd H5 D (.lst (((List.range g.length).map fun i => valR t g (t.length + i)).map vO)) D = some (.lst (((List.range g.length).map fun i => valR t g (t.length + i)).map vO)) := upd_same
        generalize upd H5 D (.lst (((List.range g.length).map fun i => valR t g (t.length + i)).map vO)) = H6 at s6 g6' ⊢
        refine ⟨l1, D, _, _, rfl, rfl, s6 _ _ q1, g6', ?_, fun L hL => ?_⟩
        · rw [List.length_map, List.length_map, List.length_map, List.length_range]
          exact Nat.le_trans (show t.length + g.length ≤ 20 by omega) (by decide)
        have eL : t.map vO ++ ((List.range g.length).map fun i => valR t g (t.length + i)).map vO = (vals (valR t g) (t.length + g.length)).map vO := by
          rw [vals_app, vals_self, List.map_append]
        rw [eL]
        have pen6 := PenAt.same pen5 s6
        obtain ⟨nLp, nLc⟩ := PenAt.ne pen6 hL
        have hL0 : H L = none := KG.But.free (But.trans fr5 (But.of s6)) hL nLp
        have s7 : Same H6 (upd H6 L (.lst ((vals (valR t g) (t.length + g.length)).map vO))) := Same.new hL
        have gL : upd H6 L (.lst ((vals (valR t g) (t.length + g.length)).map vO)) L = some (.lst ((vals (valR t g) (t.length + g.length)).map vO)) := upd_same
        have n2L : l2 ≠ L := fun z => by
          rw [← z, s6 _ _ q2] at hL
          cases hL
        generalize upd H6 L (.lst ((vals (valR t g) (t.length + g.length)).map vO)) = H7 at s7 gL ⊢
        have s7 := s6.trans s7
        have q2 := s7 _ _ q2
        have pen7 := PenAt.same pen5 s7
        have fr7 : But p H H7 := But.trans fr5 (But.of s7)
        have lv : (vals (valR t g) (t.length + g.length)).length = t.length + g.length := by
          unfold vals
          rw [List.length_map, List.length_range]
        have etv : tv (vals (valR t g) (t.length + g.length)) at0 = valR t g at0 := tv_range _ (by omega)
        have fin : ∀ (o : Option Int) (H8 : Hp) (n8 : Nat), n8 ≤ n + 5 → o ≠ valR t g at0 → (∀ v, o = some v → -50 ≤ v ∧ v ≤ 50) → H8 L = some (.lst ((vals (valR t g) (t.length + g.length)).map vO)) → H8 l2 = some (.lst (g.map V.int)) → PenAt H8 p c ns n8 → But p H H8 →
            ∀ z2, upd H8 L (.lst (((vals (valR t g) (t.length + g.length)).map vO).set at0 (vO o))) z2 = none → Q (.ref z2) (upd (upd H8 L (.lst (((vals (valR t g) (t.length + g.length)).map vO).set at0 (vO o)))) z2 (.tup [.ref L, .ref l2])) := by
          intro o H8 n8 h8 hne hb8 gL8 q28 pen8 fr8 z2 hz2
          have s9 : Same (upd H8 L (.lst (((vals (valR t g) (t.length + g.length)).map vO).set at0 (vO o)))) (upd (upd H8 L (.lst (((vals (valR t g) (t.length + g.length)).map vO).set at0 (vO o)))) z2 (.tup [.ref L, .ref l2])) := Same.new hz2
          have pen9 := PenAt.upd pen8 nLp nLc (o := .lst (((vals (valR t g) (t.length + g.length)).map vO).set at0 (vO o)))
          have fr9 : But p H (upd H8 L (.lst (((vals (valR t g) (t.length + g.length)).map vO).set at0 (vO o)))) := KG.But.fill hL0 fr8
          refine k z2 L l2 ((vals (valR t g) (t.length + g.length)).set at0 o) g n8 _ ⟨upd_same, s9 _ _ (by rw [upd_same, List.map_set]), s9 _ _ (upd_oth n2L q28)⟩ rfl (by rw [List.length_set]; omega) (by rw [List.length_set]; omega)
            ⟨at0, ?_⟩ (fun o' ho v hv => ?_) (fun v hv => ?_) (PenAt.same pen9 s9) (by omega) (But.trans fr9 (But.of s9)) (PenAt.ne pen9 hz2).1 nLp n2p
          · rw [valR_told (by rw [List.length_set]; omega), tv_set (by omega)]
            exact hne
          · rcases List.mem_or_eq_of_mem_set ho with y | y
            · unfold vals at y
              obtain ⟨i, hi, rfl⟩ := List.mem_map.mp y
              have := small_on g1 gt sm hg (List.mem_range.mp hi) hv
              omega
            · rw [y] at hv
              exact hb8 v hv
          · have := hg v hv
            omega
        refine ⟨_, rfl, _, rfl, _, _, _, _, rfl, rfl, SqL.of gL, at_tv (k := at0) rfl (by omega), rfl, _, rfl, ?_⟩
        rw [etv]
        cases ev : valR t g at0 with
        | none =>
          refine iteT ?_
          refine ⟨_, rfl, _, rfl, L, _, _, at0, rfl, rfl, gL, ixN_nat (by rw [List.length_map]; omega), ?_⟩
          refine ⟨_, rfl, _, rfl, (by show 2 ≤ sizeLine; decide), fun z2 hz2 => ?_⟩
          exact fin (some 3) H7 n5 (by omega) (by rw [ev]; simp) (fun v hv => by cases hv; omega) gL q2 pen7 fr7 z2 hz2
        | some x =>
          refine iteF ?_
          have hx := small_on g1 gt sm hg (n := at0) (by omega) ev
          refine ⟨_, rfl, _, rfl, _, rfl, _, _, _, _, rfl, rfl, SqL.of gL, at_tv (k := at0) rfl (by omega), ?_⟩
          rw [etv, ev]
          refine ⟨_, _, rfl, rfl, (by show 2 ≤ sizeLine; decide), fun M hM => ?_⟩
          have s8 : Same H7 (upd H7 M (.lst [.non, .int (x + 1)])) := Same.new hM
          have gM : upd H7 M (.lst [.non, .int (x + 1)]) M = some (.lst [.non, .int (x + 1)]) := upd_same
          have nM := (PenAt.ne pen7 hM).1
          generalize upd H7 M (.lst [.non, .int (x + 1)]) = H8 at s8 gM ⊢
          refine ⟨p, c, M, _, ns, n5, rfl, PenAt.same pen7 s8, hlen, gM, nM, (by show 0 < 2; decide), (by show 2 < 1000000; decide), by omega, fun v H9 hv pen9 b9 => ?_⟩
          obtain ⟨o, ho, rfl⟩ : ∃ o : Option Int, (o = none ∨ o = some (x + 1)) ∧ v = vO o := by
            rcases List.mem_cons.mp hv with rfl | hv
            · exact ⟨none, .inl rfl, rfl⟩
            · rw [List.mem_singleton] at hv
              exact ⟨some (x + 1), .inr rfl, hv⟩
          have gL9 := b9 _ nLp _ (s8 _ _ gL)
          refine ⟨_, rfl, _, rfl, L, _, _, at0, rfl, rfl, gL9, ixN_nat (by rw [List.length_map]; omega), ?_⟩
          refine ⟨_, rfl, _, rfl, (by show 2 ≤ sizeLine; decide), fun z2 hz2 => ?_⟩
          refine fin o H9 (n5 + 1) (by omega) ?_ (fun v hv => ?_) gL9 (b9 _ n2p _ (s8 _ _ q2)) pen9 (But.trans fr7 (But.trans (But.of s8) b9)) z2 hz2
          · rw [ev]
            rcases ho with rfl | rfl
            · simp
            · simp only [ne_eq, Option.some.injEq]
              omega
          · rcases ho with rfl | rfl
            · cases hv
            · cases hv
              omega
end
end KG
namespace KG
open PySem L2
section
variable {F : Nat → Option Int} {T1 : List (Option Int)} {G1 : List Int}
theorem Nf.go (h : Nf F T1 G1) {n : Nat} (hn : T1.length - G1.length ≤ n) : F (n + G1.length) = (F n).map (· + sv G1 (n % G1.length)) := by
  obtain ⟨l1, l2⟩ := h.len
  have := valR_far l1 l2 hn
  rw [h.val, h.val] at this
  exact this
theorem Nf.dvd (h : Nf F T1 G1) {b N : Nat} {c : Nat → Int} (R : Rate F b N c) : G1.length ∣ N := by
  obtain ⟨T, G, p, e, a1, a2, a3, rfl, rfl, a4⟩ := h
  obtain ⟨p1, p2, p3, p4, p5⟩ := a1.p1 a2 a3
  rw [p5]
  have eF : valR T G = F := funext a4
  subst eF
  have R1 := rate_of (T := T) (G := G) a2 a3
  have per : Per (valR T G) (T.length + b) G.length (cAt T G) N := by
    intro n hn
    have c1 := R1.cross R (n := n) (by omega) (by omega)
    have c2 := R1.cross R (n := n + N) (by omega) (by omega)
    rw [R.per n (by omega)] at c2
    have g := R.go n (by omega)
    have z : (N : Int) ≠ 0 := by
      have := R.pos
      omega
    refine ⟨by rw [g]; simp, fun x y hx hy => ?_, ?_⟩
    · rw [g, hx] at hy
      simp only [Option.map_some, Option.some.injEq] at hy
      rw [← hy, ← c1]
      grind
    · refine mul_cancel z ?_
      grind
  have o := (per_p a1 a2 a3).mono (M' := T.length + b) (by omega)
  have g := Per.gcd o per
  have := min_p a1 a2 a3 (by omega) g (Nat.gcd_pos_of_pos_left _ (by omega)) (Nat.gcd_dvd_left _ _)
  rw [← this]
  exact Nat.gcd_dvd_right _ _
end
/-- rows that are the fewest: one period told, the first gain the greatest -/
structure SelfC (T : List (Option Int)) (G : List Int) : Prop where
  l1 : 1 ≤ G.length
  l2 : T.length = G.length
  some : tv T 0 ≠ none
  top : ∀ r, 0 < r → r < G.length → sv G r < sv G 0
  zero : ∀ r, r < G.length → tv T r = none → sv G r = 0
theorem self_nf {T T1 : List (Option Int)} {G G1 : List Int} (S : SelfC T G) (h : Nf (valR T G) T1 G1) : T1 = T ∧ G1 = G := by
  have g1 := S.l1
  have l2 := S.l2
  have R := rate_of (T := T) (G := G) g1 (by omega)
  have b0 : T.length - G.length = 0 := by omega
  rw [b0] at R
  have dv := h.dvd R
  obtain ⟨q1, q2⟩ := h.len
  have go0 : ∀ n, valR T G (n + G.length) = (valR T G n).map (· + sv G (n % G.length)) := fun n => valR_far g1 (by omega) (by omega)
  -- far on, by either
  have far1 : ∀ k n, T1.length ≤ n → valR T G (n + G1.length * k) = (valR T G n).map (· + (k : Int) * sv G1 (n % G1.length)) := by
    intro k
    induction k with
    | zero => intro n _; simp
    | succ k ih =>
      intro n hn
      have e : n + G1.length * (k + 1) = n + G1.length * k + G1.length := by rw [Nat.mul_succ, Nat.add_assoc]
      rw [e, h.go (by omega), ih n hn, Nat.add_mul_mod_self_left]
      cases valR T G n with
      | none => rfl
      | some x =>
        simp only [Option.map_some]
        congr 1
        have : ((k + 1 : Nat) : Int) = (k : Int) + 1 := by omega
        rw [this]
        grind
  have non0 : ∀ k, valR T G (G.length * k) ≠ none := by
    intro k
    induction k with
    | zero =>
      rw [Nat.mul_zero, valR_told (by omega)]
      exact S.some
    | succ k ih =>
      rw [Nat.mul_succ, go0]
      simp only [ne_eq, Option.map_eq_none_iff]
      exact ih
  have lp : G1.length = G.length := by
    obtain ⟨m, hm⟩ := dv
    rcases Nat.lt_or_ge G1.length G.length with z | z
    · exfalso
      have big : T1.length ≤ G.length * T1.length := by
        have : 1 * T1.length ≤ G.length * T1.length := Nat.mul_le_mul_right _ g1
        omega
      generalize hn : G.length * T1.length = n at big
      have nn : valR T G n ≠ none := by
        rw [← hn]
        exact non0 _
      have e0 : n % G.length = 0 := by
        rw [← hn]
        exact Nat.mul_mod_right _ _
      have e1 : (n + G1.length) % G.length = G1.length := by
        rw [Nat.add_mod, e0, Nat.zero_add, Nat.mod_mod, Nat.mod_eq_of_lt z]
      cases ex : valR T G n with
      | none => exact nn ex
      | some x =>
        have a1 := far1 m n big
        rw [← hm, go0 n, e0, ex] at a1
        simp only [Option.map_some, Option.some.injEq] at a1
        have a2 := h.go (n := n) (by omega)
        rw [ex] at a2
        simp only [Option.map_some] at a2
        have a3 := far1 m (n + G1.length) (by omega)
        rw [← hm, go0 (n + G1.length), e1, a2, Nat.add_mod_right] at a3
        simp only [Option.map_some, Option.some.injEq] at a3
        have := S.top G1.length (by omega) z
        omega
    · exact Nat.le_antisymm (Nat.le_of_dvd (by omega) ⟨m, hm⟩) z
  have eG : G1 = G := by
    apply List.ext_getElem lp
    intro r r1 r2
    have s1 : ∀ L : List Int, (h : r < L.length) → L[r] = sv L r := fun L h => by simp [sv, List.getD_eq_getElem?_getD, h]
    rw [s1 _ r1, s1 _ r2]
    have big : T1.length ≤ G.length * T1.length := by
      have : 1 * T1.length ≤ G.length * T1.length := Nat.mul_le_mul_right _ g1
      omega
    have hmod : (r + G.length * T1.length) % G.length = r := by rw [Nat.add_mul_mod_self_left, Nat.mod_eq_of_lt r2]
    have a1 := h.go (n := r + G.length * T1.length) (by omega)
    have a2 := go0 (r + G.length * T1.length)
    rw [lp, a2, hmod] at a1
    cases ex : valR T G (r + G.length * T1.length) with
    | some x =>
      rw [ex] at a1
      simp only [Option.map_some, Option.some.injEq] at a1
      omega
    | none =>
      -- none from the first period on
      have nn : ∀ k, valR T G (r + G.length * k) = none ↔ tv T r = none := by
        intro k
        induction k with
        | zero => rw [Nat.mul_zero, Nat.add_zero, valR_told (by omega)]
        | succ k ih =>
          rw [Nat.mul_succ, ← Nat.add_assoc, go0]
          simp only [Option.map_eq_none_iff]
          exact ih
      have t0 := (nn _).mp ex
      rw [S.zero r r2 t0]
      -- the last told one of this rest is None
      have md := Nat.mod_add_div (T1.length - G1.length) G.length
      have ml := Nat.mod_lt (T1.length - G1.length) (show 0 < G.length by omega)
      generalize (T1.length - G1.length) % G.length = s at md ml
      generalize (T1.length - G1.length) / G.length = k at md
      have pick : ∃ j, T1.length - G1.length ≤ r + G.length * j ∧ r + G.length * j < T1.length := by
        rcases Nat.lt_or_ge r s with z | z
        · refine ⟨k + 1, ?_, ?_⟩
          · rw [Nat.mul_succ]; omega
          · rw [Nat.mul_succ]; omega
        · exact ⟨k, by omega, by omega⟩
      obtain ⟨j, j1, j2⟩ := pick
      have hz := h.zero j1 j2 (by
        rw [← valR_told (G := G1) j2, h.val]
        exact (nn j).mpr t0)
      rw [lp, Nat.add_mul_mod_self_left, Nat.mod_eq_of_lt r2] at hz
      exact hz
  refine ⟨?_, eG⟩
  have lT : T1.length = G.length := by
    rcases Nat.lt_or_ge G1.length T1.length with z | z
    · exfalso
      have fw := h.few z
      have e1 : tv T1 (T1.length - 1 - G1.length) = valR T G (T1.length - 1 - G1.length) := by rw [← valR_told (G := G1) (by omega), h.val]
      have e2 : tv T1 (T1.length - 1) = valR T G (T1.length - 1) := by rw [← valR_told (G := G1) (by omega), h.val]
      have a := go0 (T1.length - 1 - G1.length)
      rw [show T1.length - 1 - G1.length + G.length = T1.length - 1 by omega] at a
      have em : (T1.length - 1) % G1.length = (T1.length - 1 - G1.length) % G.length := by
        rw [lp, ← Nat.add_mod_right (T1.length - 1 - G.length), show T1.length - 1 - G.length + G.length = T1.length - 1 by omega]
      rw [e1, e2, a, em, eG] at fw
      cases ev : valR T G (T1.length - 1 - G1.length) with
      | none => rw [eG] at ev; rw [ev] at fw; cases fw
      | some x =>
        rw [eG] at ev
        rw [ev] at fw
        have fw : decide (some (x + sv G ((T1.length - 1 - G.length) % G.length)) = some (x + sv G ((T1.length - 1 - G.length) % G.length))) = false := fw
        simp at fw
    · omega
  apply List.ext_getElem (by omega)
  intro i i1 i2
  have s1 : ∀ L : List (Option Int), (h : i < L.length) → L[i] = tv L i := fun L h => by simp [tv, List.getD_eq_getElem?_getD, h]
  rw [s1 _ i1, s1 _ i2, ← valR_told (G := G1) i1, h.val, valR_told i2]
end KG
namespace KG
open PySem L2
/-- gains given where a growth ends in None count for nothing -/
theorem val_given {T : List (Option Int)} {G V' : List Int} (g1 : 1 ≤ G.length) (l2 : T.length = G.length) (lv : V'.length = G.length) (h : ∀ r, r < G.length → tv T r ≠ none → sv V' r = sv G r) (n : Nat) :
    valR T V' n = valR T G n := by
  have nn : ∀ m, valR T G m ≠ none → tv T (m % G.length) ≠ none := by
    intro m
    induction m using Nat.strongRecOn with
    | _ m ih =>
      intro hm
      rcases Nat.lt_or_ge m G.length with z | z
      · rw [valR_told (by omega)] at hm
        rw [Nat.mod_eq_of_lt z]
        exact hm
      · have a := valR_far g1 (T := T) (by omega) (n := m - G.length) (by omega)
        rw [show m - G.length + G.length = m by omega] at a
        have e : m % G.length = (m - G.length) % G.length := by
          rw [← Nat.add_mod_right (m - G.length), show m - G.length + G.length = m by omega]
        rw [e]
        refine ih _ (by omega) fun y => ?_
        rw [a, y] at hm
        exact hm rfl
  induction n using Nat.strongRecOn with
  | _ n ih =>
    rcases Nat.lt_or_ge n T.length with z | z
    · rw [valR_told z, valR_told z]
    · have a := valR_far g1 (T := T) (by omega) (n := n - G.length) (by omega)
      have b := valR_far (T := T) (G := V') (by omega) (by omega) (n := n - G.length) (by omega)
      rw [lv, show n - G.length + G.length = n by omega, ih (n - G.length) (by omega)] at b
      rw [show n - G.length + G.length = n by omega] at a
      rw [a, b]
      cases ev : valR T G (n - G.length) with
      | none => rfl
      | some x => rw [h _ (Nat.mod_lt _ (by omega)) (nn _ (by rw [ev]; simp))]
theorem wide_self {T : List (Option Int)} {G : List Int} {k : Nat} (g1 : 1 ≤ G.length) (l2 : T.length = G.length) (k1 : 1 ≤ k) (n : Nat) :
    valR (vals (valR T G) (G.length * k)) (repG k (mulG (k : Int) G)) n = valR T G n := by
  refine wide_val g1 (by omega) k1 ?_ (wide0 g1 k1) n
  obtain ⟨m, rfl⟩ : ∃ m, k = m + 1 := ⟨k - 1, by omega⟩
  have : G.length * (m + 1) = m * G.length + G.length := by rw [Nat.mul_succ, Nat.mul_comm]
  show T.length + m * G.length ≤ G.length * (m + 1)
  omega
theorem self_add {T : List (Option Int)} {G : List Int} (S : SelfC T G) : SelfC (addT T T) (addG G G) := by
  have h1 := S.l1
  have h2 := S.l2
  have hg : ∀ r, r < G.length → sv (addG G G) r = sv G r + sv G r := fun r h => sv_range _ h
  have ht : ∀ r, r < T.length → tv (addT T T) r = addO (tv T r) (tv T r) := fun r h => tv_range _ h
  refine ⟨by rw [addG_len]; exact h1, by rw [addG_len, addT_len]; exact h2, ?_, fun r r0 r1 => ?_, fun r r1 hr => ?_⟩
  · rw [ht 0 (by omega)]
    cases e : tv T 0 with
    | none => exact absurd e S.some
    | some x => intro z; cases z
  · rw [addG_len] at r1
    rw [hg r r1, hg 0 (by omega)]
    have := S.top r r0 r1
    omega
  · rw [addG_len] at r1
    rw [ht r (by omega)] at hr
    rw [hg r r1]
    cases e : tv T r with
    | none => rw [S.zero r r1 e]; rfl
    | some x => rw [e] at hr; cases hr
theorem add_mul2 (o : Option Int) : addO o o = o.map (· * 2) := by
  cases o with
  | none => rfl
  | some x =>
    show some (x + x) = some (x * 2)
    congr 1
    omega
section
variable {X : Cx} {j : Nat}
theorem o_add (TM : TxM X.K X.mg) (hr : Room j X.A) (hj : 8 ≤ j := by decide) : OpR X (binaryOp .Add) (rOwn (gC X.mg) (spAdd X.K (gC X.mg))) := by
  obtain ⟨g, h⟩ := TM.radd
  exact op_own (op := .Add) (fo := some (.builtin "int.__add__")) (ro := some (.builtin "int.__radd__")) TM.E.pl (ka_add TM) (hr.mono hj) h (.inr ⟨_, rfl⟩) (h1 := by kernel_rfl) (h2 := by kernel_rfl)
theorem o_mul (TM : TxM X.K X.mg) (hr : Room j X.A) (hj : 8 ≤ j := by decide) : OpR X (binaryOp .Mult) (rOwn (gC X.mg) (spMul X.K (gC X.mg))) := by
  obtain ⟨g, h⟩ := TM.rmul
  exact op_own (op := .Mult) (fo := some (.builtin "int.__mul__")) (ro := some (.builtin "int.__rmul__")) TM.E.pl (ka_mul TM) (hr.mono hj) h (.inr ⟨_, rfl⟩) (h1 := by kernel_rfl) (h2 := by kernel_rfl)
theorem o_eq (TE : TxE X.K X.mg) (hr : Room j X.A) (hj : 2 ≤ j := by decide) : OpR X (compareOp .Eq) (rCmpA X.K (gC X.mg) (spEqG X.K (gC X.mg))) :=
  op_cmpA (op := .Eq) (ka_eq TE) (hr.mono hj)
theorem o_ne (TE : TxE X.K X.mg) (hr : Room j X.A) (hj : 3 ≤ j := by decide) : OpR X (compareOp .NotEq) (rNeO (gC X.mg) (spEqG X.K (gC X.mg))) :=
  op_neO TE.pl (ka_eq TE) (hr.mono hj) TE.ne
end
section
variable {P : Program} {w : World} {K : PySem.W.Frag} {mg : Str → Option Value} {base : Heap}
theorem shaped_pair (ts : List (Option Int)) (gs : List Int) : SeqAt.shaped (.tuple [.tuple (ts.map oD), .tuple (gs.map PyData.int)]) = true := by
  have h1 := opts_dep ts
  have h2 := opts_dep (gs.map some)
  have h3 := opts_lay (gs.map some)
  rw [← ints_opts] at h2 h3
  unfold SeqAt.shaped
  simp [PyData.canLay0, PyData.canLayAll0, PyData.depth, PyData.depthAll, opts_lay, h3]
  omega
theorem eqv_pair (ts us : List (Option Int)) (gs hs : List Int) : PyData.eqv (.tuple [.tuple (ts.map oD), .tuple (gs.map PyData.int)]) (.tuple [.tuple (us.map oD), .tuple (hs.map PyData.int)]) = decide (ts = us ∧ gs = hs) := by
  have e1 := eqv_optsT ts us
  have e2 := eqv_intsT gs hs
  rw [show PyData.eqv (.tuple [.tuple (ts.map oD), .tuple (gs.map PyData.int)]) (.tuple [.tuple (us.map oD), .tuple (hs.map PyData.int)]) = (PyData.eqv (.tuple (ts.map oD)) (.tuple (us.map oD)) && (PyData.eqv (.tuple (gs.map PyData.int)) (.tuple (hs.map PyData.int)) && true)) by simp only [PyData.eqv, PyData.eqvAll]]
  rw [e1, e2]
  by_cases a : ts = us <;> by_cases b : gs = hs <;> simp [a, b]
theorem grow_mk {H : Hp} {C a b x dx : Addr} {T : List (Option Int)} {G : List Int} {R : Hp → Prop} (ha : SqS K H a (T.map vO)) (hb : SqS K H b (G.map V.int)) (g1 : 1 ≤ G.length) (g2 : G.length ≤ 60) (gt : G.length ≤ T.length) (tl : T.length ≤ 4000)
    (hx : H x = none) (hdx : H dx = none) (ne : dx ≠ x) (k : ∀ (T' : List (Option Int)) (G' : List Int) (H' : Hp), Same H H' → GrowAt K C H' x T' G' → Nf (valR T G) T' G' → T'.length ≤ T.length → G'.length ≤ G.length → R H') :
    spInit K C [.ref x, .ref a, .ref b] (upd (upd H dx (.own x)) x (.ins C dx [])) (fun v H' => v = .non ∧ R H') E0 := by
  have st : Same H (upd (upd H dx (.own x)) x (.ins C dx [])) := fun b o e => upd_oth (fun z => by rw [z, hx] at e; cases e) (upd_new hdx e)
  refine ⟨x, dx, a, b, T, G, rfl, upd_same, ha.new st, hb.new st, g1, g2, gt, tl, fun T' G' H' hb' hg nf l1 l2 => ⟨rfl, ?_⟩⟩
  obtain ⟨h1, h2⟩ := made_same (fun _ _ e => e) hx hdx hb'
  exact k T' G' H' h2 hg nf l1 l2
def spLWide : Sp := fun vs H Q _ => ∃ (p c : Addr) (ns : List Int) (n : Nat), vs = [.ref p] ∧ PenAt H p c ns n ∧ ns.length ≤ 63 ∧ n + 200 < 1000000 ∧
  ∀ (n' : Nat) (H' : Hp), PenAt H' p c ns n' → n' ≤ n + 200 → But p H H' → Q (.bl true) H'
theorem kp_lwide (TM : TxM K mg) (TS : TxS K mg) : Kf P w K mg base 12 "_law_wide_right" ["_law_pen_here"] spLWide := by
  have TE := TM.E
  have TG := TE.G
  have T := TG.T
  refine T.d_lwideright.okF sc_lwideright (fun vs H Q E h => ?_) (fun f cdv A outer s H vs Q E hA hr h => ?_)
  · obtain ⟨p, c, ns, n, rfl, _⟩ := h
    rfl
  · obtain ⟨p, c, ns, n, rfl, hpen, hlen, hn, k⟩ := h
    refine ⟨_, (pss_cons (ps_set (i := 1) sc_lwideright.nd rfl (Or.inl rfl) (pe_op op_add (pe_int) (pe_kf (kp_draw T) hA hr (by rfl) (pa_cons (pv 0) (pa_cons (pe_int) pa_nil)))))
 (pss_cons (ps_set (i := 2) sc_lwideright.nd rfl (Or.inr rfl) (pe_op op_add (pe_int) (pe_kf (kp_draw T) hA hr (by rfl) (pa_cons (pv 0) (pa_cons (pe_op op_sub (pe_op op_divW (pe_int) (pv 1)) (pe_int)) pa_nil)))))
 (pss_cons (ps_set (i := 3) sc_lwideright.nd rfl (Or.inr rfl) (pe_op op_cat (pe_lst (pa_cons (pe_int) pa_nil)) (pe_lc (own := [("_law_rest", 9)]) (g := gName 9) (tt := tYes) rfl sc_lwideright.nd (pi_range1 (by rfl) (T.nb _ (by decide)) (pa_cons (pe_op op_sub (pv 1) (pe_int)) pa_nil)) (blkOk_by (N := n_lwideright) (sc := defScope s_lwideright) (by decide +kernel)) (fun _ _ _ _ _ => pg_name (i := 9) sc_lwideright.nd rfl (Or.inl rfl)) (fun _ _ _ _ _ => pts_nil) (fun _ _ _ _ _ => (pe_kf (kp_draw T) hA hr (by rfl) (pa_cons (pv 0) (pa_cons (pe_int) pa_nil)))))))
 (pss_cons (ps_set (i := 4) sc_lwideright.nd rfl (Or.inr rfl) (pe_lc (own := [("_law_n", 10)]) (g := gName 10) (tt := tYes) rfl sc_lwideright.nd (pi_range1 (by rfl) (T.nb _ (by decide)) (pa_cons (pv 1) pa_nil)) (blkOk_by (N := n_lwideright) (sc := defScope s_lwideright) (by decide +kernel)) (fun _ _ _ _ _ => pg_name (i := 10) sc_lwideright.nd rfl (Or.inl rfl)) (fun _ _ _ _ _ => pts_nil) (fun _ _ _ _ _ => (pe_ifExp (PW.pt (pw_and (pt_cmpR op_eq (pe_kf (kp_draw T) hA hr (by rfl) (pa_cons (pv 0) (pa_cons (pe_int) pa_nil))) (pe_int) (nomark _)) (pw_and1 (pt_cmpR op_gt (pv 10) (pe_int) (nomark _))))) (pe_non) (pe_kf (kp_draw T) hA hr (by rfl) (pa_cons (pv 0) (pa_cons (pe_int) pa_nil)))))))
 (pss_cons (ps_set (i := 5) sc_lwideright.nd rfl (Or.inl rfl) (pe_callTy call_list_of (by rfl) (T.nb _ (by decide)) (by decide +kernel) (pa_cons (pv 3) pa_nil)))
 (pss_cons (ps_set (i := 3) sc_lwideright.nd rfl (Or.inr rfl) (pe_lc (own := [("_law_n", 10)]) (g := gName 10) (tt := tYes) rfl sc_lwideright.nd (pi_range1 (by rfl) (T.nb _ (by decide)) (pa_cons (pv 1) pa_nil)) (blkOk_by (N := n_lwideright) (sc := defScope s_lwideright) (by decide +kernel)) (fun _ _ _ _ _ => pg_name (i := 10) sc_lwideright.nd rfl (Or.inl rfl)) (fun _ _ _ _ _ => pts_nil) (fun _ _ _ _ _ => (pe_ifExp (pt_cmpR op_isN (pe_ix (ix_list : IxR _ (rIxL K)) (pv 4) (pv 10) (fun _ _ => rfl)) (pe_non) (nomark _)) (pe_int) (pe_ix (ix_list : IxR _ (rIxL K)) (pv 3) (pv 10) (fun _ _ => rfl))))))
 (pss_cons (ps_setLc (i := 6) (own := [("_law_n", 10)]) (g := gName 10) (tt := tYes) rfl sc_lwideright.nd rfl rfl (sw_true rfl rfl rfl (by decide +kernel)) (pi_range1 (by rfl) (T.nb _ (by decide)) (pa_cons (pe_op op_mulW' (pv 1) (pv 2)) pa_nil)) (blkOk_by (N := n_lwideright) (sc := defScope s_lwideright) (by decide +kernel)) (fun _ _ _ _ _ => pg_name (i := 10) sc_lwideright.nd rfl (Or.inl rfl)) (fun _ _ _ _ _ => pts_nil) (fun _ _ _ _ _ => (pe_kf (kp_lat T) hA hr (by rfl) (pa_cons (pe_tup (pa_cons (pv 4) (pa_cons (pv 3) pa_nil))) (pa_cons (pv 10) pa_nil)))))
 (pss_cons (ps_par (i := 7) (j := 8) (by rfl) sc_lwideright.nd rfl rfl (by decide) rfl rfl (pa_cons (pe_kmk (kp_init TG) hr (by rfl) TG.mgC (pa_cons (pv 4) (pa_cons (pv 3) pa_nil))) (pa_cons (pe_kmk (kp_init TG) hr (by rfl) TG.mgC (pa_cons (pv 6) (pa_cons (pe_op op_rep (pe_lc (own := [("_law_gain", 11)]) (g := gName 11) (tt := tYes) rfl sc_lwideright.nd (pi_list (pv 3)) (blkOk_by (N := n_lwideright) (sc := defScope s_lwideright) (by decide +kernel)) (fun _ _ _ _ _ => pg_name (i := 11) sc_lwideright.nd rfl (Or.inl rfl)) (fun _ _ _ _ _ => pts_nil) (fun _ _ _ _ _ => (pe_op op_mulW' (pv 2) (pv 11)))) (pv 2)) pa_nil))) pa_nil)) (by rfl))
 (pss_cons (ps_if (PW.pt (pw_or (pt_cmpR (op_neD hr.units : OpR _ _ (rNeD K)) (pe_tup (pa_cons (pe_fld (pv 8) rfl) (pa_cons (pe_fld (pv 8) rfl) pa_nil))) (pe_tup (pa_cons (pe_callTy call_tuple_of (by rfl) (T.nb _ (by decide)) (by decide +kernel) (pa_cons (pv 4) pa_nil)) (pa_cons (pe_callTy call_tuple_of (by rfl) (T.nb _ (by decide)) (by decide +kernel) (pa_cons (pv 3) pa_nil)) pa_nil))) (nomark _)) (pw_or (pt_cmpR (o_ne TE hr) (pv 7) (pv 8) (nomark _)) (pw_or1 (pt_cmpR op_ne (pe_kpr (kp_period TE) TG.cls hr (pv 7)) (pv 1) (nomark _))))))
 (pss_one (ps_ret (pe_bl))) pss_nil)
 (pss_one (ps_ret ((pe_and (pe_cmpR (o_eq TE hr) (pe_kmk (kp_init TG) hr (by rfl) TG.mgC (pa_cons (pv 4) (pa_cons (pv 5) pa_nil))) (pv 7) (nomark _)) (pe_and (pe_cmpR op_eq (pe_callTy (call_strO (ka_str TS) hr) (by rfl) (T.nb _ (by decide)) (by decide +kernel) (pa_cons (pe_op (o_add TM hr) (pv 7) (pv 8)) pa_nil)) (pe_callTy (call_strO (ka_str TS) hr) (by rfl) (T.nb _ (by decide)) (by decide +kernel) (pa_cons (pe_op (o_mul TM hr) (pv 7) (pe_int)) pa_nil)) (nomark _)) (pe_one (pe_cmpR (op_eqD hr.units : OpR _ _ (rEqD K)) (pe_kpr (kp_period TE) TG.cls hr (pe_op (o_add TM hr) (pv 7) (pv 8))) (pv 1) (nomark _))))))))))))))))), ?_⟩
    dsimp only [tSeq, tAsg, tNext, tRet, tCons, tCB]
    refine ⟨_, rfl, p, c, 24, ns, n, rfl, hpen, hlen, by decide, by decide, by omega, fun r1 H1 ra rb pen1 b1 => ?_⟩
    obtain ⟨p0, rfl⟩ := Int.eq_ofNat_of_zero_le ra
    have e7 : (7 : Int) + (p0 : Int) = ((p0 + 7 : Nat) : Int) := by omega
    refine ⟨_, _, rfl, rfl, ?_⟩
    dsimp only [gName]
    rw [e7]
    generalize hP : p0 + 7 = m
    refine ⟨_, rfl, _, rfl, _, _, rfl, rfl, by omega, by omega, fun q r e r0 r1 => ?_⟩
    have q2 : 2 ≤ q := by
      rcases Int.lt_or_le q 2 with z | z
      · have : (m : Int) * q ≤ (m : Int) * 1 := Int.mul_le_mul_of_nonneg_left (by omega) (by omega)
        omega
      · exact z
    have q8 : q ≤ 60 := by
      rcases Int.lt_or_le 60 q with z | z
      · have : (m : Int) * 61 ≤ (m : Int) * q := Int.mul_le_mul_of_nonneg_left (by omega) (by omega)
        omega
      · exact z
    refine ⟨_, _, rfl, rfl, p, c, q - 1, ns, n + 1, rfl, pen1, hlen, by omega, by omega, by omega, fun r2 H2 ra2 rb2 pen2 b2 => ?_⟩
    obtain ⟨t0, rfl⟩ := Int.eq_ofNat_of_zero_le ra2
    have e2 : (2 : Int) + (t0 : Int) = ((t0 + 2 : Nat) : Int) := by omega
    refine ⟨_, _, rfl, rfl, ?_⟩
    dsimp only [gName]
    rw [e2]
    generalize hK : t0 + 2 = k2
    have mk : m * k2 ≤ 60 := by
      have h1 : (m : Int) * (k2 : Int) ≤ (m : Int) * q := Int.mul_le_mul_of_nonneg_left (by omega) (by omega)
      have h2 : ((m * k2 : Nat) : Int) = (m : Int) * (k2 : Int) := Int.natCast_mul _ _
      omega
    clear r0 r1 e q2 q8 rb2 ra2
    have k60 : k2 ≤ 60 := by
      have : 1 * k2 ≤ m * k2 := Nat.mul_le_mul_right _ (by omega)
      omega
    have fr2 : But p H H2 := But.trans b1 b2
    have m7 : 7 ≤ m := by omega
    have m30 : m ≤ 30 := by omega
    clear pen1 b1 b2 rb ra
    -- the gains that are given
    refine ⟨by decide, fun L0 hL0 => ?_⟩
    have s3 : Same H2 (upd H2 L0 (.lst [.int 9])) := Same.new hL0
    have g0 : upd H2 L0 (.lst [.int 9]) L0 = some (.lst [.int 9]) := upd_same
    have nL0 := (PenAt.ne pen2 hL0).1
    generalize upd H2 L0 (.lst [.int 9]) = H3 at s3 g0 ⊢
    have pen3 := PenAt.same pen2 s3
    have fr3 : But p H H3 := But.trans fr2 (But.of s3)
    refine ⟨_, rfl, _, _, rfl, rfl, _, rfl, by omega, by omega, fun D hD => ?_⟩
    rw [show ((m : Int) - 1).toNat = m - 1 by omega]
    obtain ⟨nD, nDc⟩ := PenAt.ne pen3 hD
    refine lc_range (fun i H' => ∃ (gs : List Int) (n' : Nat), (∀ v ∈ gs, 0 ≤ v ∧ v ≤ 4) ∧ gs.length = i ∧ H' D = some (.lst (gs.map V.int)) ∧ PenAt H' p c ns n' ∧ n' ≤ n + 2 + i ∧ But p H3 H')
      ⟨[], n + 2, (fun v h => absurd h List.not_mem_nil), rfl, upd_same, PenAt.upd pen3 nD nDc, by omega, But.of (Same.new hD)⟩ ?_ ?_
    · rintro i H4 hi ⟨gs, n', hgs, hl, hd, pen4, hn4, fr4⟩
      refine ⟨rfl, yes_run ?_⟩
      refine ⟨_, rfl, p, c, 5, ns, n', rfl, pen4, hlen, by decide, by decide, by omega, fun r H5 ra rb pen5 b5 => ?_⟩
      refine ⟨_, b5 D nD _ hd, ?_, gs ++ [r], n' + 1, ?_, by simp [hl], ?_, PenAt.upd pen5 nD nDc, by omega, KG.But.fill hD (KG.But.trans fr4 b5)⟩
      · rw [List.length_map, hl]
        exact Nat.lt_of_lt_of_le hi (sz4 (by omega))
      · intro v hv
        rcases List.mem_append.mp hv with z | z
        · exact hgs v z
        · rw [List.mem_singleton.mp z]
          omega
      · rw [upd_same, List.map_append]
        rfl
    · rintro H4 ⟨gs, n4, hgs, hl, hd, pen4, hn4, fr4⟩
      have g04 := fr4 _ nL0 _ g0
      refine ⟨L0, D, _, _, rfl, rfl, g04, hd, ?_, fun L hL => ?_⟩
      · rw [List.length_map, hl]
        exact Nat.le_trans (show 1 + (m - 1) ≤ 30 by omega) (by decide)
      have s5 : Same H4 (upd H4 L (.lst ([V.int 9] ++ gs.map V.int))) := Same.new hL
      have gL : upd H4 L (.lst ([V.int 9] ++ gs.map V.int)) L = some (.lst ((9 :: gs).map V.int)) := upd_same
      have nL := (PenAt.ne pen4 hL).1
      generalize upd H4 L (.lst ([V.int 9] ++ gs.map V.int)) = H5 at s5 gL ⊢
      have pen5 := PenAt.same pen4 s5
      have fr5 : But p H H5 := But.trans (But.trans fr3 fr4) (But.of s5)
      have lV : (9 :: gs : List Int).length = m := by
        rw [List.length_cons, hl]
        omega
      have vb : ∀ r, 0 < r → r < m → 0 ≤ sv (9 :: gs) r ∧ sv (9 :: gs) r ≤ 4 := fun r r0 r1 => by
        obtain ⟨s, rfl⟩ : ∃ s, r = s + 1 := ⟨r - 1, by omega⟩
        have ls : s < gs.length := by omega
        have e : sv (9 :: gs) (s + 1) = gs[s] := by simp [sv, List.getD_eq_getElem?_getD, ls]
        rw [e]
        exact hgs _ (List.getElem_mem ls)
      have v0 : sv (9 :: gs) 0 = 9 := rfl
      generalize (9 :: gs : List Int) = V' at gL lV vb v0
      clear hgs hl hd g0 g04 s3 s5 pen3 pen4 hD nD nDc fr3 fr4 nL0 hL0
      dsimp only [gName]
      -- the told ones
      refine ⟨_, rfl, _, rfl, by omega, by omega, fun D2 hD2 => ?_⟩
      rw [Int.toNat_natCast]
      obtain ⟨nD2, nDc2⟩ := PenAt.ne pen5 hD2
      refine lc_range (fun i H' => ∃ (ts : List (Option Int)) (n' : Nat), (∀ o ∈ ts, ∀ v, o = some v → 0 ≤ v ∧ v ≤ 29) ∧ ts.length = i ∧ (0 < i → tv ts 0 ≠ none) ∧ H' D2 = some (.lst (ts.map vO)) ∧ PenAt H' p c ns n' ∧ n' ≤ n + 40 + 2 * i ∧ But p H5 H')
        ⟨[], _, (fun o h => absurd h List.not_mem_nil), rfl, (fun h => absurd h (Nat.lt_irrefl 0)), upd_same, PenAt.upd pen5 nD2 nDc2, by omega, But.of (Same.new hD2)⟩ ?_ ?_
      · rintro i H6 hi ⟨ts, n', hts, hl, h0, hd, pen6, hn6, fr6⟩
        refine ⟨rfl, yes_run ?_⟩
        have ll : (ts.map vO).length < sizeLine := by
          rw [List.length_map, hl]
          exact Nat.lt_of_lt_of_le hi (sz4 (by omega))
        have app : ∀ (o : Option Int) (H8 : Hp) (n8 : Nat), (∀ v, o = some v → 0 ≤ v ∧ v ≤ 29) → (i = 0 → o ≠ none) → PenAt H8 p c ns n8 → n8 ≤ n' + 2 → But p H6 H8 → ∃ acc, H8 D2 = some (.lst acc) ∧ acc.length < sizeLine ∧
            ∃ (ts : List (Option Int)) (n' : Nat), (∀ o ∈ ts, ∀ v, o = some v → 0 ≤ v ∧ v ≤ 29) ∧ ts.length = i + 1 ∧ (0 < i + 1 → tv ts 0 ≠ none) ∧ upd H8 D2 (.lst (acc ++ [vO o])) D2 = some (.lst (ts.map vO)) ∧ PenAt (upd H8 D2 (.lst (acc ++ [vO o]))) p c ns n' ∧ n' ≤ n + 40 + 2 * (i + 1) ∧ But p H5 (upd H8 D2 (.lst (acc ++ [vO o]))) := by
          intro o H8 n8 ho ho2 pen8 hn8 b8
          refine ⟨_, b8 D2 nD2 _ hd, ll, ts ++ [o], n8, ?_, by simp [hl], fun _ => ?_, ?_, PenAt.upd pen8 nD2 nDc2, by omega, KG.But.fill hD2 (KG.But.trans fr6 b8)⟩
          · intro o' ho' v hv
            rcases List.mem_append.mp ho' with z | z
            · exact hts o' z v hv
            · rw [List.mem_singleton.mp z] at hv
              exact ho v hv
          · cases ts with
            | nil =>
              have : i = 0 := hl.symm
              show (o : Option Int) ≠ none
              exact ho2 this
            | cons x l => exact h0 (by rw [← hl]; exact Nat.succ_pos _)
          · rw [upd_same, List.map_append]
            rfl
        refine ⟨_, rfl, p, c, 6, ns, n', rfl, pen6, hlen, by decide, by decide, by omega, fun r H7 ra rb pen7 b7 => ⟨rfl, _, rfl, ?_⟩⟩
        have second : spDraw [.ref p, .int 30] H7 (fun y H8 => ∃ acc, H8 D2 = some (.lst acc) ∧ acc.length < sizeLine ∧
            ∃ (ts : List (Option Int)) (n' : Nat), (∀ o ∈ ts, ∀ v, o = some v → 0 ≤ v ∧ v ≤ 29) ∧ ts.length = i + 1 ∧ (0 < i + 1 → tv ts 0 ≠ none) ∧ upd H8 D2 (.lst (acc ++ [y])) D2 = some (.lst (ts.map vO)) ∧ PenAt (upd H8 D2 (.lst (acc ++ [y]))) p c ns n' ∧ n' ≤ n + 40 + 2 * (i + 1) ∧ But p H5 (upd H8 D2 (.lst (acc ++ [y])))) E0 :=
          ⟨p, c, 30, ns, n' + 1, rfl, pen7, hlen, by decide, by decide, by omega, fun r H8 ra rb pen8 b8 =>
            app (some r) H8 (n' + 2) (fun v hv => by cases hv; omega) (fun _ => by simp) pen8 (by omega) (But.trans b7 b8)⟩
        refine ite2 (fun cc => ?_) (fun cc => ?_)
        · refine ⟨_, rfl, _, _, rfl, rfl, _, rfl, ?_⟩
          by_cases z : i = 0
          · rw [decide_eq_false (show ¬ (0 : Int) < 0 + (i : Int) by omega)]
            exact iteF ⟨_, rfl, second⟩
          · rw [decide_eq_true (show (0 : Int) < 0 + (i : Int) by omega)]
            exact iteT (app none H7 (n' + 1) (fun v hv => by cases hv) (fun y => absurd y z) pen7 (by omega) b7)
        · exact iteF ⟨_, rfl, second⟩
      · rintro H6 ⟨ts, n6, hts, lt, t0, hd, pen6, hn6, fr6⟩
        have gL6 := fr6 _ nL _ gL
        have fr7 : But p H H6 := But.trans fr5 fr6
        dsimp only [gName]
        refine ⟨_, rfl, L, _, rfl, .inl (SqL.of gL6), fun W hW => ?_⟩
        have s7 : Same H6 (upd H6 W (.lst (V'.map V.int))) := Same.new hW
        have gW : upd H6 W (.lst (V'.map V.int)) W = some (.lst (V'.map V.int)) := upd_same
        generalize upd H6 W (.lst (V'.map V.int)) = H7 at s7 gW ⊢
        have gL7 := s7 _ _ gL6
        have gD7 := s7 _ _ hd
        have pen7 := PenAt.same pen6 s7
        have fr7 : But p H H7 := But.trans fr7 (But.of s7)
        refine ⟨_, rfl, _, rfl, by omega, by omega, fun D3 hD3 => ?_⟩
        rw [Int.toNat_natCast]
        refine lc_rng (r := fun i _ => some (.int (if tv ts i = none then 0 else sv V' i))) (by show _ ≤ sizeLine; exact Nat.le_trans m30 (by decide)) hD3 ?_ ?_
        · intro i H' hi hH Ky Kn hy _
          have e0 : (0 : Int) + (i : Int) = ((i : Nat) : Int) := Int.zero_add _
          refine ⟨rfl, yes_run ?_⟩
          refine ⟨_, rfl, _, rfl, _, _, _, _, rfl, rfl, SqL.of (hH _ _ gD7), at_tv e0 (by omega), rfl, _, rfl, ?_⟩
          cases ev : tv ts i with
          | none =>
            refine iteT (hy _ ?_)
            show some (V.int (if tv ts i = none then 0 else sv V' i)) = _
            rw [if_pos ev]
          | some x =>
            refine iteF ?_
            refine ⟨_, rfl, _, rfl, _, _, _, _, rfl, rfl, SqL.of (hH _ _ gL7), at_sv e0 (by omega), hy _ ?_⟩
            show some (V.int (if tv ts i = none then 0 else sv V' i)) = _
            rw [if_neg (by rw [ev]; simp)]
        · rw [fm_ints]
          generalize hG : (List.range m).map (fun i => if tv ts i = none then 0 else sv V' i) = G
          have lG : G.length = m := by rw [← hG, List.length_map, List.length_range]
          have svG : ∀ r, r < m → sv G r = if tv ts r = none then 0 else sv V' r := fun r h => by
            rw [← hG]
            exact sv_range _ h
          have s8 : Same H7 (upd H7 D3 (.lst (G.map V.int))) := Same.new hD3
          have gG : upd H7 D3 (.lst (G.map V.int)) D3 = some (.lst (G.map V.int)) := upd_same
          generalize upd H7 D3 (.lst (G.map V.int)) = H8 at s8 gG ⊢
          have gW8 := s8 _ _ gW
          have gD8 := s8 _ _ gD7
          have pen8 := PenAt.same pen7 s8
          have fr8 : But p H H8 := But.trans fr7 (But.of s8)
          have S : SelfC ts G := by
            refine ⟨by omega, by omega, t0 (by omega), fun r r0 r1 => ?_, fun r r1 hr => ?_⟩
            · rw [svG r (by omega), svG 0 (by omega), if_neg (t0 (by omega)), v0]
              have := vb r r0 (by omega)
              split <;> omega
            · rw [svG r (by omega), if_pos hr]
          have sg : SmG G := fun v hv => by
            obtain ⟨r, r1, rfl⟩ := List.mem_iff_getElem.mp hv
            have e : G[r] = sv G r := by simp [sv, List.getD_eq_getElem?_getD, r1]
            rw [e, svG r (by omega)]
            rcases Nat.eq_zero_or_pos r with z | z
            · rw [z, v0]
              split <;> decide
            · have := vb r z (by omega)
              split
              · decide
              · omega
          have same : ∀ r, valR ts V' r = valR ts G r := val_given S.l1 S.l2 (by omega) fun r r1 hr => by
            rw [svG r (by omega), if_neg hr]
          clear gL gL6 gL7 gD7 gW pen5 pen6 pen7 fr5 fr6 fr7
          dsimp only [gName]
          -- the row
          refine ⟨_, rfl, _, rfl, _, _, rfl, rfl, .inr (by constructor <;> omega), fun zz hzz => ?_⟩
          have ezz : zz = ((m * k2 : Nat) : Int) := by rw [hzz]; exact (Int.natCast_mul _ _).symm
          subst ezz
          refine ⟨_, rfl, by omega, by omega, fun D4 hD4 => ?_⟩
          rw [Int.toNat_natCast]
          refine lc_range (fun i H' => Same H8 H' ∧ H' D4 = some (.lst ((vals (valR ts G) i).map vO))) ⟨Same.new hD4, upd_same⟩ ?_ ?_
          · rintro i H9 hi ⟨s9, g9⟩
            refine ⟨rfl, yes_run ?_⟩
            refine ⟨_, rfl, _, rfl, (by show 2 ≤ sizeLine; decide), fun z hz => ?_⟩
            have s10 : Same H9 (upd H9 z (.tup [.ref D2, .ref D3])) := Same.new hz
            have gz : upd H9 z (.tup [.ref D2, .ref D3]) z = some (.tup [.ref D2, .ref D3]) := upd_same
            generalize upd H9 z (.tup [.ref D2, .ref D3]) = H10 at s10 gz ⊢
            have s11 := s9.trans s10
            refine ⟨_, rfl, z, D2, D3, ts, G, i, (by rw [Int.zero_add]; rfl), ⟨gz, s11 _ _ gD8, s11 _ _ gG⟩, S.l1, by omega, by omega, by omega, sg, ?_⟩
            refine ⟨_, s10 _ _ g9, ?_, fun b o eb => upd_oth (fun z => by rw [z, hD4] at eb; cases eb) (s11 _ _ eb), ?_⟩
            · unfold vals
              rw [List.length_map, List.length_map, List.length_range]
              exact Nat.lt_of_lt_of_le hi (Nat.le_trans mk (by decide))
            · rw [upd_same, vals_app _ i 1, List.map_append]
              rfl
          · rintro H9 ⟨s9, g9⟩
            dsimp only [gName]
            have gD9 := s9 _ _ gD8
            have gG9 := s9 _ _ gG
            have gW9 := s9 _ _ gW8
            have pen9 := PenAt.same pen8 s9
            have fr9 : But p H H9 := But.trans fr8 (But.of s9)
            clear gD8 gG gW8 pen8 fr8
            refine ⟨_, rfl, _, rfl, fun xa dxa hx hdx ne => grow_mk (.inl (SqL.of gD9)) (.inl (SqL.of gG9)) S.l1 (by omega) (by omega) (by omega) hx hdx ne fun T1 G1 H10 s10 hg1 nf1 _ _ => ?_⟩
            obtain ⟨eT1, eG1⟩ := self_nf S nf1
            rw [eT1, eG1] at hg1
            clear eT1 eG1 nf1 hx hdx ne
            have gG10 := s10 _ _ gG9
            have pen10 := PenAt.same pen9 s10
            have fr10 : But p H H10 := But.trans fr9 (But.of s10)
            refine ⟨_, rfl, _, rfl, D3, rfl, ⟨_, SqL.of gG10⟩, ?_⟩
            intro D5 hD5
            refine lc_it (walk_list (a := D3) (xs := G.map V.int)) (fun i H' => Same H10 H' ∧ H' D5 = some (.lst ((mulG (k2 : Int) (G.take i)).map V.int))) ⟨Same.new hD5, upd_same⟩ (fun _ _ _ q => SqL.of (q.1 _ _ gG10)) ?_ ?_
            · rintro i xv B1 B2 hi ⟨sm, gD⟩ ⟨rfl, hx⟩
              rw [List.length_map] at hi
              rw [List.getElem?_map, List.getElem?_eq_getElem hi] at hx
              obtain rfl := Option.some.inj hx
              refine ⟨rfl, yes_run ?_⟩
              refine ⟨_, rfl, _, rfl, _, _, rfl, rfl, .inl (by constructor <;> omega), fun z0 hz0 => ?_⟩
              subst hz0
              refine ⟨_, gD, ?_, fun b o eb => upd_oth (fun z => by rw [z, hD5] at eb; cases eb) (sm _ _ eb), ?_⟩
              · unfold mulG
                rw [List.length_map, List.length_map, List.length_take]
                exact Nat.lt_of_le_of_lt (Nat.min_le_left _ _) (Nat.lt_of_lt_of_le hi (Nat.le_trans (show G.length ≤ 30 by omega) (by decide)))
              · rw [upd_same, List.take_add_one, List.getElem?_eq_getElem hi]
                simp only [mulG, List.map_append, Option.toList, List.map_cons, List.map_nil, Int.mul_comm]
            · rintro B1 ⟨sm, gD⟩
              rw [List.length_map, List.take_length] at gD
              have lM : (mulG (k2 : Int) G).length = m := by rw [← lG]; exact List.length_map _
              refine ⟨_, rfl, D5, (k2 : Int), _, rfl, rfl, gD, by omega, by omega, ?_, fun Wd hWd => ?_⟩
              · rw [List.length_map, lM, Int.toNat_natCast]
                exact Nat.le_trans mk (by decide)
              rw [Int.toNat_natCast, show (List.replicate k2 ((mulG (k2 : Int) G).map V.int)).flatten = (repG k2 (mulG (k2 : Int) G)).map V.int by
                unfold repG
                rw [List.map_flatten, List.map_replicate]]
              have sW : Same B1 (upd B1 Wd (.lst ((repG k2 (mulG (k2 : Int) G)).map V.int))) := Same.new hWd
              have gWd : upd B1 Wd (.lst ((repG k2 (mulG (k2 : Int) G)).map V.int)) Wd = some (.lst ((repG k2 (mulG (k2 : Int) G)).map V.int)) := upd_same
              generalize upd B1 Wd (.lst ((repG k2 (mulG (k2 : Int) G)).map V.int)) = H11 at sW gWd ⊢
              have s11 : Same H10 H11 := sm.trans sW
              have lR : (repG k2 (mulG (k2 : Int) G)).length = m * k2 := by rw [repG_len, lM, Nat.mul_comm]
              have lv : (vals (valR ts G) (m * k2)).length = m * k2 := by
                unfold vals
                rw [List.length_map, List.length_range]
              have m1 : 1 ≤ m * k2 := Nat.le_trans (show 1 ≤ 7 * 1 by decide) (Nat.mul_le_mul m7 (by omega))
              refine fun xb dxb hx hdx ne => grow_mk (T := vals (valR ts G) (m * k2)) (.inl (SqL.of (s11 _ _ (s10 _ _ g9)))) (.inl (SqL.of gWd)) (by omega) (by omega) (by omega) (by omega) hx hdx ne fun T2 G2 H12 s12 hg2 nf2 _ _ => ?_
              have nf2 := nf2.congr (F2 := valR ts G) (fun r => by rw [← lG]; exact wide_self S.l1 S.l2 (by omega) r)
              obtain ⟨eT2, eG2⟩ := self_nf S nf2
              rw [eT2, eG2] at hg2
              clear eT2 eG2 nf2 hx hdx ne
              have s13 := s11.trans s12
              have hg1 := hg1.same s13
              have gD13 := s13 _ _ (s10 _ _ gD9)
              have gG13 := s13 _ _ gG10
              have gW13 := s13 _ _ (s10 _ _ gW9)
              have pen13 := PenAt.same pen10 s13
              have fr13 : But p H H12 := But.trans fr10 (But.of s13)
              clear gD9 gG9 gW9 gG10 pen9 pen10 fr9 fr10
              refine ⟨_, _, rfl, ?_⟩
              obtain ⟨da, ta, ga, a1, a2, a3⟩ := id hg1
              obtain ⟨db, tb, gb, b1, b2, b3⟩ := id hg2
              dsimp only [tSeq, tAsg, tNext, tRet, tCons, tCB]
              refine ⟨_, rfl, xb, _, db, _, _, rfl, b1, TG.cls, TG.nT, rfl, _, rfl, xb, _, db, _, _, rfl, b1, TG.cls, TG.nG, rfl, (by show 2 ≤ sizeLine; decide), fun u1 hu1 => ?_⟩
              have s14 : Same H12 (upd H12 u1 (.tup [.ref tb, .ref gb])) := Same.new hu1
              have gu1 : upd H12 u1 (.tup [.ref tb, .ref gb]) u1 = some (.tup [.ref tb, .ref gb]) := upd_same
              generalize upd H12 u1 (.tup [.ref tb, .ref gb]) = H13 at s14 gu1 ⊢
              refine ⟨_, rfl, D2, _, rfl, .inl ⟨SqL.of (s14 _ _ gD13), fun v1 hv1 => ?_⟩⟩
              have s15 : Same H13 (upd H13 v1 (.tup (ts.map vO))) := Same.new hv1
              have gv1 : upd H13 v1 (.tup (ts.map vO)) v1 = some (.tup (ts.map vO)) := upd_same
              generalize upd H13 v1 (.tup (ts.map vO)) = H14 at s15 gv1 ⊢
              have s15' := s14.trans s15
              refine ⟨_, rfl, D3, _, rfl, .inl ⟨SqL.of (s15' _ _ gG13), fun v2 hv2 => ?_⟩⟩
              have s16 : Same H14 (upd H14 v2 (.tup (G.map V.int))) := Same.new hv2
              have gv2 : upd H14 v2 (.tup (G.map V.int)) v2 = some (.tup (G.map V.int)) := upd_same
              generalize upd H14 v2 (.tup (G.map V.int)) = H15 at s16 gv2 ⊢
              have s16' := s15'.trans s16
              refine ⟨(by show 2 ≤ sizeLine; decide), fun u2 hu2 => ?_⟩
              have s17 : Same H15 (upd H15 u2 (.tup [.ref v1, .ref v2])) := Same.new hu2
              have gu2 : upd H15 u2 (.tup [.ref v1, .ref v2]) u2 = some (.tup [.ref v1, .ref v2]) := upd_same
              generalize upd H15 u2 (.tup [.ref v1, .ref v2]) = H16 at s17 gu2 ⊢
              have s17' := s16'.trans s17
              refine ⟨_, _, .tup (SqT.of (s17 _ _ (s16 _ _ (s15 _ _ gu1)))) (.cons (.tup (SqT.new2 b2 s17') (dp_opts ts)) (.cons (.tup (SqT.new2 b3 s17') (dp_ints G)) .nil)),
                .tup (SqT.of gu2) (.cons (.tup (SqT.of (s17 _ _ (s16 _ _ gv1))) (dp_opts ts)) (.cons (.tup (SqT.of (s17 _ _ gv2)) (dp_ints G)) .nil)), shaped_pair ts G, shaped_pair ts G, _, rfl, ?_⟩
              rw [eqv_pair, decide_eq_true (⟨rfl, rfl⟩ : ts = ts ∧ G = G)]
              refine iteF ?_
              have hg1 := hg1.same s17'
              have hg2 := hg2.same s17'
              have gD17 := s17' _ _ gD13
              have gW17 := s17' _ _ gW13
              have pen17 := PenAt.same pen13 s17'
              have fr17 : But p H H16 := But.trans fr13 (But.of s17')
              have a1 := s17' _ _ a1
              have b1 := s17' _ _ b1
              clear hu1 hu2 hv1 hv2 gu1 gu2 gv1 gv2 s14 s15 s16 s17 s15' s16' s17' gD13 gG13 gW13 pen13 fr13
              refine ⟨_, rfl, _, rfl, xa, da, _, xb, db, _, rfl, a1, rfl, b1, ?_⟩
              refine .inl ⟨xa, xb, ts, ts, G, G, rfl, hg1, hg2, true, ?_, ?_⟩
              · rw [decide_eq_true (⟨rfl, rfl⟩ : ts = ts ∧ G = G)]
              refine ⟨_, rfl, iteF ?_⟩
              refine ⟨_, rfl, xa, da, _, rfl, a1, xa, ts, G, rfl, hg1, ?_⟩
              refine ⟨_, rfl, rfl, ?_⟩
              rw [show (!decide (V.int ((G.length : Nat) : Int) = V.int ((m : Nat) : Int))) = false by rw [lG, decide_eq_true rfl]; rfl]
              refine ⟨_, rfl, iteF ?_⟩
              have bG : ∀ v ∈ G, 0 ≤ v ∧ v ≤ 9 := fun v hv => by
                obtain ⟨r, r1, rfl⟩ := List.mem_iff_getElem.mp hv
                have e : G[r] = sv G r := by simp [sv, List.getD_eq_getElem?_getD, r1]
                rw [e, svG r (by omega)]
                rcases Nat.eq_zero_or_pos r with z | z
                · rw [z, v0]
                  split <;> omega
                · have := vb r z (by omega)
                  split <;> omega
              have sT2 : SmT (addT ts ts) := fun o ho v hv => by
                unfold addT at ho
                obtain ⟨i, hi, rfl⟩ := List.mem_map.mp ho
                have hi := List.mem_range.mp hi
                cases ev : tv ts i with
                | none => rw [ev] at hv; cases hv
                | some x =>
                  rw [ev] at hv
                  have hv := Option.some.inj hv
                  have e : tv ts i = ts[i] := by simp [tv, List.getD_eq_getElem?_getD, hi]
                  have := hts ts[i] (List.getElem_mem hi) x (by rw [← e]; exact ev)
                  omega
              have sG2 : SmG (addG G G) := fun v hv => by
                unfold addG at hv
                obtain ⟨i, hi, rfl⟩ := List.mem_map.mp hv
                have hi := List.mem_range.mp hi
                have e : sv G i = G[i] := by simp [sv, List.getD_eq_getElem?_getD, hi]
                have := bG G[i] (List.getElem_mem hi)
                rw [e]
                omega
              have lT2 := addT_len ts ts
              have lG2 := addG_len G G
              refine ⟨_, rfl, _, rfl, fun xc dxc hx hdx ne => grow_mk (T := ts) (G := V') (.inl (SqL.of gD17)) (.inl (SqL.of gW17)) (by omega) (by omega) (by omega) (by omega) hx hdx ne fun T3 G3 H17 s18 hg3 nf3 _ _ => ?_⟩
              obtain ⟨eT3, eG3⟩ := self_nf S (nf3.congr (F2 := valR ts G) same)
              rw [eT3, eG3] at hg3
              clear eT3 eG3 nf3 hx hdx ne
              have hg1 := hg1.same s18
              have hg2 := hg2.same s18
              have a1 := s18 _ _ a1
              have b1 := s18 _ _ b1
              have pen18 := PenAt.same pen17 s18
              have fr18 : But p H H17 := But.trans fr17 (But.of s18)
              obtain ⟨dc, tc, gc, c1, c2, c3⟩ := id hg3
              refine ⟨_, rfl, xc, dc, _, _, rfl, c1, .inl (.ins a1 TG.cls TE.iC TE.iG TE.iT TE.iM), TE.nF, .inl ⟨xc, xa, ts, ts, G, G, rfl, hg3, hg1, ?_⟩⟩
              rw [decide_eq_true (⟨rfl, rfl⟩ : ts = ts ∧ G = G)]
              refine ⟨_, rfl, iteT ?_⟩
              refine ⟨_, rfl, _, rfl, xa, da, _, rfl, a1, .inr ⟨xb, db, _, rfl, b1⟩, xa, xb, ts, ts, G, G, rfl, hg1, hg2, rfl, rfl, S.l1, by omega, by omega, by omega, fun w1 Tw Gw H18 _ s19 hgw nfw _ _ => ?_⟩
              have sumF : ∀ (F : Nat → Option Int) Tw Gw, Nf F Tw Gw → (∀ r, F r = addO (valR ts G r) (valR ts G r)) → Tw = addT ts ts ∧ Gw = addG G G := fun F Tw Gw nf e =>
                self_nf (self_add S) (nf.congr (F2 := valR (addT ts ts) (addG G G)) fun r => (e r).trans (val_add rfl rfl S.l1 (by omega) r).symm)
              obtain ⟨eTw, eGw⟩ := sumF _ _ _ nfw fun r => rfl
              rw [eTw, eGw] at hgw
              clear eTw eGw nfw
              obtain ⟨dw, tw, gw, w2, w3, w4⟩ := id hgw
              refine ⟨w1, dw, _, rfl, w2, w1, _, _, rfl, hgw, sT2, sG2, by omega, by omega, fun H19 s20 => ⟨_, rfl, ?_⟩⟩
              have s20' := s19.trans s20
              have hg1 := hg1.same s20'
              have hg2 := hg2.same s20'
              have a1 := s20' _ _ a1
              have b1 := s20' _ _ b1
              have pen20 := PenAt.same pen18 s20'
              have fr20 : But p H H19 := But.trans fr18 (But.of s20')
              refine ⟨_, rfl, xa, da, _, rfl, a1, .inl ⟨2, rfl⟩, xa, ts, G, 2, rfl, hg1, by decide, by decide, S.l1, by omega, by omega, by omega, fun y1 Tz Gz H20 _ s21 hgz nfz _ _ => ?_⟩
              obtain ⟨eTz, eGz⟩ := sumF _ _ _ nfz fun r => (add_mul2 _).symm
              rw [eTz, eGz] at hgz
              clear eTz eGz nfz
              obtain ⟨dz, tz, gz, y2, y3, y4⟩ := id hgz
              refine ⟨y1, dz, _, rfl, y2, y1, _, _, rfl, hgz, sT2, sG2, by omega, by omega, fun H21 s22 => ⟨_, rfl, ?_⟩⟩
              have s22' := s21.trans s22
              have hg1 := hg1.same s22'
              have hg2 := hg2.same s22'
              have a1 := s22' _ _ a1
              have b1 := s22' _ _ b1
              have pen22 := PenAt.same pen20 s22'
              have fr22 : But p H H21 := But.trans fr20 (But.of s22')
              refine ⟨rfl, ?_⟩
              rw [decide_eq_true rfl]
              refine ⟨_, rfl, iteT ?_⟩
              refine ⟨_, rfl, _, rfl, xa, da, _, rfl, a1, .inr ⟨xb, db, _, rfl, b1⟩, xa, xb, ts, ts, G, G, rfl, hg1, hg2, rfl, rfl, S.l1, by omega, by omega, by omega, fun z1 Tv Gv H22 _ s23 hgv nfv _ _ => ?_⟩
              obtain ⟨eTv, eGv⟩ := sumF _ _ _ nfv fun r => rfl
              rw [eTv, eGv] at hgv
              clear eTv eGv nfv
              obtain ⟨dv, tv', gv, z2, z3, z4⟩ := id hgv
              refine ⟨z1, dv, _, rfl, z2, z1, _, _, rfl, hgv, ?_⟩
              refine ⟨_, rfl, _, _, .int _, .int _, by simp [SeqAt.shaped, PyData.canLay0, PyData.depth], by simp [SeqAt.shaped, PyData.canLay0, PyData.depth], ?_⟩
              rw [lG2, lG, show PyData.eqv (.int (m : Int)) (.int (m : Int)) = true by simp [PyData.eqv]]
              exact k (max n4 n6) _ (by
                have := PenAt.same pen22 s23
                obtain ⟨t', g', h1, h2, h3, h4, h5⟩ := this
                exact ⟨t', g', h1, h2, h3, h4, by omega⟩) (by omega) (But.trans fr22 (But.of s23))
end
end KG
namespace KG
open PySem L2
/-- the signs of words, a blank between them -/
def jn : List (List Nat) → List Nat
  | [] => []
  | [x] => x
  | x :: y :: r => x ++ 32 :: jn (y :: r)
theorem cut_blank : ∀ {x y t s : List Nat}, 32 ∉ x → 32 ∉ y → x ++ 32 :: t = y ++ 32 :: s → x = y ∧ t = s
  | [], [], t, s, _, _, e => by simpa using e
  | [], b :: y, t, s, _, hy, e => by
    simp only [List.nil_append, List.cons_append, List.cons.injEq] at e
    exact absurd (by rw [← e.1]; exact List.mem_cons_self) hy
  | a :: x, [], t, s, hx, _, e => by
    simp only [List.nil_append, List.cons_append, List.cons.injEq] at e
    exact absurd (by rw [e.1]; exact List.mem_cons_self) hx
  | a :: x, b :: y, t, s, hx, hy, e => by
    simp only [List.cons_append, List.cons.injEq] at e
    obtain ⟨h1, h2⟩ := cut_blank (fun z => hx (List.mem_cons_of_mem _ z)) (fun z => hy (List.mem_cons_of_mem _ z)) e.2
    exact ⟨by rw [e.1, h1], h2⟩
theorem jn_inj : ∀ {as bs : List (List Nat)}, as ≠ [] → bs ≠ [] → (∀ x ∈ as, 32 ∉ x) → (∀ x ∈ bs, 32 ∉ x) → jn as = jn bs → as = bs
  | [], _, h, _, _, _, _ => absurd rfl h
  | _, [], _, h, _, _, _ => absurd rfl h
  | [x], [y], _, _, _, _, e => by
    have e : x = y := e
    rw [e]
  | [x], y :: z :: r, _, _, ha, _, e => by
    have e : x = y ++ 32 :: jn (z :: r) := e
    exact absurd (by rw [e]; simp) (ha x List.mem_cons_self)
  | x :: z :: r, [y], _, _, _, hb, e => by
    have e : x ++ 32 :: jn (z :: r) = y := e
    exact absurd (by rw [← e]; simp) (hb y List.mem_cons_self)
  | x :: u :: r, y :: v :: q, _, _, ha, hb, e => by
    have e : x ++ 32 :: jn (u :: r) = y ++ 32 :: jn (v :: q) := e
    obtain ⟨h1, h2⟩ := cut_blank (ha x List.mem_cons_self) (hb y List.mem_cons_self) e
    have := jn_inj (by simp) (by simp) (fun z hz => ha z (List.mem_cons_of_mem _ hz)) (fun z hz => hb z (List.mem_cons_of_mem _ hz)) h2
    rw [h1, this]
theorem join_jn : ∀ ws : List Str, (Str.join " " ws).cps.toList = jn (ws.map fun w => w.cps.toList)
  | [] => rfl
  | [x] => rfl
  | x :: y :: r => by
    have ih := join_jn (y :: r)
    show ((x ++ " " ++ Str.join " " (y :: r)) : Str).cps.toList = _
    show ((x.cps ++ (" " : Str).cps) ++ (Str.join " " (y :: r)).cps).toList = x.cps.toList ++ 32 :: jn ((y :: r).map fun w => w.cps.toList)
    rw [Array.toList_append, Array.toList_append, ih]
    have : (" " : Str).cps.toList = [32] := by decide +kernel
    rw [this, List.append_assoc]
    rfl
theorem cut_at {α : Type} {z : α} : ∀ {x y t s : List α}, z ∉ x → z ∉ y → x ++ z :: t = y ++ z :: s → x = y ∧ t = s
  | [], [], t, s, _, _, e => by simpa using e
  | [], b :: y, t, s, _, hy, e => by
    simp only [List.nil_append, List.cons_append, List.cons.injEq] at e
    exact absurd (by rw [← e.1]; exact List.mem_cons_self) hy
  | a :: x, [], t, s, hx, _, e => by
    simp only [List.nil_append, List.cons_append, List.cons.injEq] at e
    exact absurd (by rw [e.1]; exact List.mem_cons_self) hx
  | a :: x, b :: y, t, s, hx, hy, e => by
    simp only [List.cons_append, List.cons.injEq] at e
    obtain ⟨h1, h2⟩ := cut_at (fun z => hx (List.mem_cons_of_mem _ z)) (fun z => hy (List.mem_cons_of_mem _ z)) e.2
    exact ⟨by rw [e.1, h1], h2⟩
/-- the signs of a written number -/
theorem wI_list (i : Int) : (wI i).cps.toList = (toString i).toList.map Char.toNat := by
  show (Str.ofString (toString i)).cps.toList = _
  rw [Str.ofString_eq_toList]
theorem nat_dig {n c : Nat} (h : c ∈ (Nat.repr n).toList.map Char.toNat) : 48 ≤ c ∧ c ≤ 57 := by
  obtain ⟨d, hd, rfl⟩ := List.mem_map.mp h
  rw [Nat.toList_repr] at hd
  have := Nat.isDigit_of_mem_toDigits (by decide) (by decide) hd
  unfold Char.isDigit at this
  rw [Bool.and_eq_true, decide_eq_true_eq, decide_eq_true_eq] at this
  exact ⟨this.1, this.2⟩
theorem wI_cases (i : Int) : (∃ n, (wI i).cps.toList = (Nat.repr n).toList.map Char.toNat) ∨ ∃ n, (wI i).cps.toList = 45 :: (Nat.repr n).toList.map Char.toNat := by
  rw [wI_list]
  cases i with
  | ofNat n => exact .inl ⟨n, rfl⟩
  | negSucc n =>
    refine .inr ⟨n + 1, ?_⟩
    have e : toString (Int.negSucc n) = "-" ++ Nat.repr (n + 1) := rfl
    rw [e, String.toList_append, List.map_append]
    rfl
theorem dig_ne (n : Nat) : (Nat.repr n).toList.map Char.toNat ≠ [] := by
  rw [Nat.toList_repr]
  simp [Nat.toDigits_ne_nil]
theorem wI_sign {i : Int} {c : Nat} (h : c ∈ (wI i).cps.toList) : c = 45 ∨ (48 ≤ c ∧ c ≤ 57) := by
  rcases wI_cases i with ⟨n, e⟩ | ⟨n, e⟩
  · rw [e] at h
    exact .inr (nat_dig h)
  · rw [e] at h
    rcases List.mem_cons.mp h with rfl | h
    · exact .inl rfl
    · exact .inr (nat_dig h)
theorem wI_ne (i : Int) : (wI i).cps.toList ≠ [45] := by
  intro z
  rcases wI_cases i with ⟨n, e⟩ | ⟨n, e⟩
  · rw [z] at e
    have := nat_dig (n := n) (c := 45) (by rw [← e]; exact List.mem_cons_self)
    omega
  · rw [z] at e
    exact dig_ne n (List.cons.inj e).2.symm
theorem wI_inj {i j : Int} (h : (wI i).cps.toList = (wI j).cps.toList) : i = j := by
  rw [wI_list, wI_list] at h
  have h2 : (toString i).toList = (toString j).toList := by
    refine List.map_inj_right (f := Char.toNat) ?_ |>.mp h
    intro a b e
    exact Char.toNat_inj.mp e
  have h3 : toString i = toString j := String.toList_inj.mp h2
  exact Int.repr_inj.mp h3
/-- the signs of a told one -/
def sO (o : Option Int) : List Nat := (wO o).cps.toList
theorem sO_none : sO none = [45] := by decide +kernel
theorem sO_inj : ∀ {o u : Option Int}, sO o = sO u → o = u
  | none, none, _ => rfl
  | none, some j, e => absurd (e.symm.trans sO_none) (wI_ne j)
  | some i, none, e => absurd (e.trans sO_none) (wI_ne i)
  | some i, some j, e => by rw [wI_inj e]
theorem sO_sign {o : Option Int} {c : Nat} (h : c ∈ sO o) : c = 45 ∨ (48 ≤ c ∧ c ≤ 57) := by
  cases o with
  | none =>
    rw [sO_none] at h
    exact .inl (List.mem_singleton.mp h)
  | some i => exact wI_sign h
theorem semi : ((";" : Str)).cps.toList = [59] := by decide +kernel
theorem row_signs (T : List (Option Int)) (G : List Int) : (rowL T G).map (fun w => w.cps.toList) = T.map sO ++ [59] :: G.map fun i => (wI i).cps.toList := by
  unfold rowL
  rw [List.map_append, List.map_cons, List.map_map, List.map_map, semi]
  rfl
theorem row_no32 (T : List (Option Int)) (G : List Int) : ∀ x ∈ (rowL T G).map (fun w => w.cps.toList), 32 ∉ x := by
  intro x hx h
  rw [row_signs] at hx
  rcases List.mem_append.mp hx with z | z
  · obtain ⟨o, _, rfl⟩ := List.mem_map.mp z
    have := sO_sign h
    omega
  · rcases List.mem_cons.mp z with rfl | z
    · simp at h
    · obtain ⟨i, _, rfl⟩ := List.mem_map.mp z
      have := wI_sign h
      omega
theorem map_inj {α β : Type} {f : α → β} (hf : ∀ a b, f a = f b → a = b) : ∀ {x y : List α}, x.map f = y.map f → x = y
  | [], [], _ => rfl
  | [], _ :: _, e => by simp at e
  | _ :: _, [], e => by simp at e
  | a :: x, b :: y, e => by
    simp only [List.map_cons, List.cons.injEq] at e
    rw [hf a b e.1, map_inj hf e.2]
/-- the text tells the rows -/
theorem row_inj {T T' : List (Option Int)} {G G' : List Int} (h : rowS T G = rowS T' G') : T = T' ∧ G = G' := by
  have h1 : Str.join " " (rowL T G) = Str.join " " (rowL T' G') := by
    rw [← PySem.StrLaws.glued_eq_join, ← PySem.StrLaws.glued_eq_join]
    exact h
  have h2 := congrArg (fun s : Str => s.cps.toList) h1
  rw [join_jn, join_jn] at h2
  have ne : ∀ (T : List (Option Int)) (G : List Int), (rowL T G).map (fun w => w.cps.toList) ≠ [] := fun T G => by
    rw [row_signs]
    simp
  have h3 := jn_inj (ne T G) (ne T' G') (row_no32 T G) (row_no32 T' G') h2
  rw [row_signs, row_signs] at h3
  have no : ∀ T : List (Option Int), [59] ∉ T.map sO := fun T z => by
    obtain ⟨o, _, e⟩ := List.mem_map.mp z
    have := sO_sign (o := o) (c := 59) (by rw [e]; exact List.mem_cons_self)
    omega
  obtain ⟨a, b⟩ := cut_at (no T) (no T') h3
  exact ⟨map_inj (fun _ _ => sO_inj) a, map_inj (fun _ _ => wI_inj) b⟩
end KG
namespace KG
open PySem L2
theorem val_bound {T : List (Option Int)} {G : List Int} (g1 : 1 ≤ G.length) (gt : G.length ≤ T.length) (hT : ∀ o ∈ T, ∀ v, o = some v → -50 ≤ v ∧ v ≤ 50) (hG : ∀ v ∈ G, -20 ≤ v ∧ v ≤ 20) (n : Nat) :
    ∀ v, valR T G n = some v → -(50 + 20 * (n : Int)) ≤ v ∧ v ≤ 50 + 20 * (n : Int) := by
  induction n using Nat.strongRecOn with
  | _ n ih =>
    intro v hv
    rcases Nat.lt_or_ge n T.length with z | z
    · rw [valR_told z] at hv
      have e : tv T n = T[n] := by simp [tv, List.getD_eq_getElem?_getD, z]
      rw [e] at hv
      have := hT _ (List.getElem_mem z) v hv
      omega
    · have a := valR_far g1 gt (n := n - G.length) (by omega)
      rw [show n - G.length + G.length = n by omega, hv] at a
      cases ev : valR T G (n - G.length) with
      | none => rw [ev] at a; cases a
      | some x =>
        rw [ev] at a
        have a : v = x + sv G ((n - G.length) % G.length) := Option.some.inj a
        have lr : (n - G.length) % G.length < G.length := Nat.mod_lt _ (by omega)
        have e : sv G ((n - G.length) % G.length) = G[(n - G.length) % G.length] := by simp [sv, List.getD_eq_getElem?_getD, lr]
        have h1 := hG _ (List.getElem_mem lr)
        rw [← e] at h1
        have h2 := ih (n - G.length) (by omega) x ev
        omega
theorem nf_small {F : Nat → Option Int} {T1 : List (Option Int)} {G1 : List Int} (h : Nf F T1 G1) (l : T1.length ≤ 4000) (hF : ∀ n v, F n = some v → -(50 + 20 * (n : Int)) ≤ v ∧ v ≤ 50 + 20 * (n : Int)) : SmT T1 ∧ SmG G1 := by
  obtain ⟨l1, l2⟩ := h.len
  have told : ∀ n, n < T1.length → tv T1 n = F n := fun n hn => by rw [← valR_told (G := G1) hn, h.val]
  refine ⟨fun o ho v hv => ?_, fun v hv => ?_⟩
  · obtain ⟨i, hi, rfl⟩ := List.mem_iff_getElem.mp ho
    have e : tv T1 i = T1[i] := by simp [tv, List.getD_eq_getElem?_getD, hi]
    have := hF i v (by rw [← told i hi, e]; exact hv)
    omega
  · obtain ⟨r, hr, rfl⟩ := List.mem_iff_getElem.mp hv
    have e : sv G1 r = G1[r] := by simp [sv, List.getD_eq_getElem?_getD, hr]
    rw [← e]
    have md := Nat.mod_add_div (T1.length - G1.length) G1.length
    have ml := Nat.mod_lt (T1.length - G1.length) (show 0 < G1.length by omega)
    generalize (T1.length - G1.length) % G1.length = s at md ml
    generalize (T1.length - G1.length) / G1.length = k at md
    have pick : ∃ j, T1.length - G1.length ≤ r + G1.length * j ∧ r + G1.length * j < T1.length := by
      rcases Nat.lt_or_ge r s with z | z
      · refine ⟨k + 1, ?_, ?_⟩
        · rw [Nat.mul_succ]; omega
        · rw [Nat.mul_succ]; omega
      · exact ⟨k, by omega, by omega⟩
    obtain ⟨j, j1, j2⟩ := pick
    have em : (r + G1.length * j) % G1.length = r := by rw [Nat.add_mul_mod_self_left, Nat.mod_eq_of_lt hr]
    have go := h.go j1
    rw [em] at go
    cases ev : F (r + G1.length * j) with
    | none =>
      have := h.zero j1 j2 (by rw [told _ j2]; exact ev)
      rw [em] at this
      rw [this]
      decide
    | some x =>
      rw [ev] at go
      have b1 := hF _ x ev
      have b2 := hF _ _ go
      dsimp only at b2
      omega
/-- the two written growths that are one -/
theorem const_two {T : List (Option Int)} {G : List Int} (g1 : 1 ≤ G.length) (gt : G.length ≤ T.length) (hT : ∀ i, i < T.length → tv T i = some 2) (hG : ∀ i, i < G.length → sv G i = 0) (n : Nat) : valR T G n = some 2 := by
  induction n using Nat.strongRecOn with
  | _ n ih =>
    rcases Nat.lt_or_ge n T.length with z | z
    · rw [valR_told z]
      exact hT n z
    · have a := valR_far g1 gt (n := n - G.length) (by omega)
      rw [show n - G.length + G.length = n by omega, ih (n - G.length) (by omega), hG _ (Nat.mod_lt _ (by omega))] at a
      exact a
/-- [7, None] with the gain 5 gains nothing -/
theorem seven {T1 : List (Option Int)} {G1 : List Int} (h : Nf (valR [some 7, none] [5]) T1 G1) : G1 = [0] := by
  obtain ⟨l1, l2⟩ := h.len
  have R := rate_of (T := [some 7, none]) (G := [5]) (by decide) (by decide)
  have d := Nat.dvd_one.mp (h.dvd R)
  have f0 : valR [some 7, none] [5] 0 = some 7 := rfl
  have fn : ∀ n, valR [some 7, none] [5] (n + 1) = none := fun n => by
    induction n with
    | zero => rfl
    | succ n ih =>
      have := valR_far (T := [some 7, none]) (G := [5]) (by decide) (by decide) (n := n + 1) (by show 2 - 1 ≤ n + 1; omega)
      rw [ih] at this
      exact this
  have l3 : 2 ≤ T1.length := by
    rcases Nat.lt_or_ge T1.length 2 with z | z
    · exfalso
      have go := h.go (n := 0) (by omega)
      rw [d, f0, fn 0] at go
      cases go
    · exact z
  have hz := h.zero (n := T1.length - 1) (by omega) (by omega) (by
    rw [← valR_told (G := G1) (by omega), h.val]
    obtain ⟨m, hm⟩ : ∃ m, T1.length - 1 = m + 1 := ⟨T1.length - 2, by omega⟩
    rw [hm]
    exact fn m)
  rw [d, Nat.mod_one] at hz
  cases G1 with
  | nil => simp at d
  | cons x l =>
    cases l with
    | nil =>
      have : x = 0 := hz
      rw [this]
    | cons y l => simp at d
end KG
namespace KG
open PySem L2
theorem jn_mem : ∀ {as : List (List Nat)} {c : Nat}, c ∈ jn as → c = 32 ∨ ∃ x ∈ as, c ∈ x
  | [], _, h => absurd h List.not_mem_nil
  | [x], _, h => .inr ⟨x, List.mem_cons_self, h⟩
  | x :: y :: r, c, h => by
    have h : c ∈ x ++ 32 :: jn (y :: r) := h
    rcases List.mem_append.mp h with z | z
    · exact .inr ⟨x, List.mem_cons_self, z⟩
    · rcases List.mem_cons.mp z with z | z
      · exact .inl z
      · rcases jn_mem z with w | ⟨u, hu, w⟩
        · exact .inl w
        · exact .inr ⟨u, List.mem_cons_of_mem _ hu, w⟩
/-- a growth's text is one that can be compared -/
theorem row_ok (T : List (Option Int)) (G : List Int) : PyData.strOk (rowS T G) = true := by
  unfold PyData.strOk
  rw [← Array.all_toList, List.all_eq_true]
  intro c hc
  have e : (rowS T G).cps.toList = jn ((rowL T G).map fun w => w.cps.toList) := by
    have : rowS T G = Str.join " " (rowL T G) := PySem.StrLaws.glued_eq_join _ _
    rw [this, join_jn]
  rw [e] at hc
  rcases jn_mem hc with z | ⟨x, hx, z⟩
  · rw [z]
    decide
  · rw [row_signs] at hx
    have : c < 60 := by
      rcases List.mem_append.mp hx with y | y
      · obtain ⟨o, _, rfl⟩ := List.mem_map.mp y
        have := sO_sign z
        omega
      · rcases List.mem_cons.mp y with rfl | y
        · have := List.mem_singleton.mp z
          omega
        · obtain ⟨i, _, rfl⟩ := List.mem_map.mp y
          have := wI_sign z
          omega
    exact decide_eq_true (by omega)
/-- told, gains and text -/
def d3 (T : List (Option Int)) (G : List Int) : PyData := .tuple [.tuple (T.map oD), .tuple (G.map PyData.int), .str (rowS T G)]
theorem shaped_three (T : List (Option Int)) (G : List Int) : SeqAt.shaped (d3 T G) = true := by
  have h1 := opts_dep T
  have h2 := opts_dep (G.map some)
  have h3 := opts_lay (G.map some)
  have h4 := row_ok T G
  rw [← ints_opts] at h2 h3
  unfold SeqAt.shaped d3
  simp [PyData.canLay0, PyData.canLayAll0, PyData.depth, PyData.depthAll, opts_lay, h3, h4]
  omega
theorem eqv_three (T : List (Option Int)) (G : List Int) : PyData.eqv (d3 T G) (d3 T G) = true := by
  have e1 := eqv_optsT T T
  have e2 := eqv_intsT G G
  unfold d3
  rw [show PyData.eqv (.tuple [.tuple (T.map oD), .tuple (G.map PyData.int), .str (rowS T G)]) (.tuple [.tuple (T.map oD), .tuple (G.map PyData.int), .str (rowS T G)]) = (PyData.eqv (.tuple (T.map oD)) (.tuple (T.map oD)) && (PyData.eqv (.tuple (G.map PyData.int)) (.tuple (G.map PyData.int)) && (PyData.eqv (.str (rowS T G)) (.str (rowS T G)) && true))) by simp only [PyData.eqv, PyData.eqvAll]]
  rw [e1, e2]
  simp [PyData.eqv]
end KG
namespace KG
open PySem L2
section
variable {K : PySem.W.Frag}
theorem SqT.butL {H H' : Hp} {p a : Addr} {xs ys : List V} (h : SqT K H a xs) (hp : H p = some (.lst ys)) (b : But p H H') : SqT K H' a xs := by
  rcases h with (h | ⟨o, h⟩) | h
  · exact .inl (.inl (b a (fun z => by rw [z, hp] at h; cases h) _ h))
  · exact .inl (.inr ⟨o, b a (fun z => by rw [z, hp] at h; cases h) _ h⟩)
  · exact .inr h
theorem ty_tup {H : Hp} {a : Addr} {xs : List V} (h : SqT K H a xs) : TyX K H (.ref a) (.type "tuple") := by
  rcases h with (h | ⟨o, h⟩) | ⟨o, _, _, h, c, _⟩
  · exact .base (.tup h)
  · exact .fTuple h
  · exact .kTuple h c
theorem GrowAt.butL {C : Addr} {H H' : Hp} {p c x : Addr} {ns : List Int} {n : Nat} {T : List (Option Int)} {G : List Int} (h : GrowAt K C H x T G) (hp : PenAt H p c ns n) (b : But p H H') : GrowAt K C H' x T G := by
  obtain ⟨t, g, e, _⟩ := hp
  obtain ⟨dx, u, v, h2, h3, h4⟩ := h
  exact ⟨dx, u, v, b x (fun z => by rw [z, e] at h2; cases h2) _ h2, SqT.butL h3 e b, SqT.butL h4 e b⟩
end
section
variable {P : Program} {w : World} {K : PySem.W.Frag} {mg : Str → Option Value} {base : Heap}
def spLaw (K : PySem.W.Frag) : Sp := fun vs H Q _ => ∃ (a : Addr) (ns : List Int), vs = [.ref a] ∧ SqL K H a (ns.map V.int) ∧ ns.length ≤ 63 ∧ ∀ H', Q (.bl true) H'
theorem law_g (TM : TxM K mg) (TS : TxS K mg) {f0 : Addr} {fd : FuncData} (F : Fun K "law" "law" s_law f0 fd) : FnG P w K mg base CX0 14 f0 fd ["_law_script"] (spLaw K) := by
  have TE := TM.E
  have TG := TE.G
  have T := TG.T
  refine F.okG sc_law (fun vs H Q E h => ?_) (fun cdv A outer s H vs Q E hA hr h => ?_)
  · obtain ⟨a, ns, rfl, _⟩ := h
    rfl
  · obtain ⟨a, ns, rfl, hs, hlen, k⟩ := h
    refine ⟨_, (pss_cons (ps_set (i := 1) sc_law.nd rfl (Or.inl rfl) (pe_kf (kp_pen T) hA hr (by rfl) (pa_cons (pv 0) pa_nil)))
 (pss_cons (ps_for PassesOwn.never rfl (pi_range1 (by rfl) (T.nb _ (by decide)) (pa_cons (pe_int) pa_nil)) (pg_name (i := 2) sc_law.nd rfl (Or.inl rfl))
 (pss_one (ps_if (pt_not (pt_val (pe_kf (kp_lwide TM TS) hA hr (by rfl) (pa_cons (pv 1) pa_nil))))
 (pss_one (ps_ret (pe_bl))) pss_nil)))
 (pss_cons (ps_for PassesOwn.never rfl (pi_range1 (by rfl) (T.nb _ (by decide)) (pa_cons (pe_int) pa_nil)) (pg_name (i := 2) sc_law.nd rfl (Or.inl rfl))
 (pss_cons (ps_set (i := 3) sc_law.nd rfl (Or.inl rfl) (pe_kf (kp_ltold T) hA hr (by rfl) (pa_cons (pv 1) pa_nil)))
 (pss_cons (ps_set (i := 4) sc_law.nd rfl (Or.inl rfl) (pe_kmk (kp_init TG) hr (by rfl) TG.mgC (pa_cons (pe_ix (ix_tup : IxR _ (rIxT K)) (pv 3) (pe_int) (fun _ _ => rfl)) (pa_cons (pe_ix (ix_tup : IxR _ (rIxT K)) (pv 3) (pe_int) (fun _ _ => rfl)) pa_nil))))
 (pss_cons (ps_par (i := 5) (j := 6) (by rfl) sc_law.nd rfl rfl (by decide) rfl rfl (pa_cons (pe_kf (kp_llong T) hA hr (by rfl) (pa_cons (pv 1) (pa_cons (pv 3) pa_nil))) (pa_cons (pe_kf (kp_lbent T) hA hr (by rfl) (pa_cons (pv 1) (pa_cons (pv 3) pa_nil))) pa_nil)) (by rfl))
 (pss_cons (ps_par (i := 7) (j := 8) (by rfl) sc_law.nd rfl rfl (by decide) rfl rfl (pa_cons (pe_kmk (kp_init TG) hr (by rfl) TG.mgC (pa_cons (pe_callTy call_tuple_of (by rfl) (T.nb _ (by decide)) (by decide +kernel) (pa_cons (pe_ix (ix_tup : IxR _ (rIxT K)) (pv 5) (pe_int) (fun _ _ => rfl)) pa_nil)) (pa_cons (pe_ix (ix_tup : IxR _ (rIxT K)) (pv 5) (pe_int) (fun _ _ => rfl)) pa_nil))) (pa_cons (pe_kmk (kp_init TG) hr (by rfl) TG.mgC (pa_cons (pe_ix (ix_tup : IxR _ (rIxT K)) (pv 6) (pe_int) (fun _ _ => rfl)) (pa_cons (pe_ix (ix_tup : IxR _ (rIxT K)) (pv 6) (pe_int) (fun _ _ => rfl)) pa_nil))) pa_nil)) (by rfl))
 (pss_cons (ps_if (PW.pt (pw_or (pt_cmpR (o_ne TE hr) (pv 4) (pv 7) (nomark _)) (pw_or1 (pt_cmpR (op_neD hr.units : OpR _ _ (rNeD K)) (pe_tup (pa_cons (pe_fld (pv 4) rfl) (pa_cons (pe_fld (pv 4) rfl) (pa_cons (pe_callTy (call_strO (ka_str TS) hr) (by rfl) (T.nb _ (by decide)) (by decide +kernel) (pa_cons (pv 4) pa_nil)) pa_nil)))) (pe_tup (pa_cons (pe_fld (pv 7) rfl) (pa_cons (pe_fld (pv 7) rfl) (pa_cons (pe_callTy (call_strO (ka_str TS) hr) (by rfl) (T.nb _ (by decide)) (by decide +kernel) (pa_cons (pv 7) pa_nil)) pa_nil)))) (nomark _)))))
 (pss_one (ps_ret (pe_bl))) pss_nil)
 (pss_cons (ps_if (PW.pt (pw_or (pt_not (pt_val (pe_kf (kp_lnorm T) hA hr (by rfl) (pa_cons (pe_fld (pv 4) rfl) (pa_cons (pe_fld (pv 4) rfl) pa_nil))))) (pw_or1 (pt_not (pt_val (pe_kf (kp_lnorm T) hA hr (by rfl) (pa_cons (pe_fld (pv 8) rfl) (pa_cons (pe_fld (pv 8) rfl) pa_nil))))))))
 (pss_one (ps_ret (pe_bl))) pss_nil)
 (pss_cons (ps_if (PW.pt (pw_or (pt_cmpR (o_eq TE hr) (pv 4) (pv 8) (nomark _)) (pw_or (pt_cmpR (op_eqD hr.units : OpR _ _ (rEqD K)) (pe_tup (pa_cons (pe_fld (pv 4) rfl) (pa_cons (pe_fld (pv 4) rfl) pa_nil))) (pe_tup (pa_cons (pe_fld (pv 8) rfl) (pa_cons (pe_fld (pv 8) rfl) pa_nil))) (nomark _)) (pw_or1 (pt_cmpR op_eq (pe_callTy (call_strO (ka_str TS) hr) (by rfl) (T.nb _ (by decide)) (by decide +kernel) (pa_cons (pv 4) pa_nil)) (pe_callTy (call_strO (ka_str TS) hr) (by rfl) (T.nb _ (by decide)) (by decide +kernel) (pa_cons (pv 8) pa_nil)) (nomark _))))))
 (pss_one (ps_ret (pe_bl))) pss_nil)
 (pss_one (ps_if (PW.pt (pw_or (pt_cmpR (o_eq TE hr) (pv 4) (pe_callTy (call_strO (ka_str TS) hr) (by rfl) (T.nb _ (by decide)) (by decide +kernel) (pa_cons (pv 4) pa_nil)) (nomark _)) (pw_or (pt_cmpR (o_eq TE hr) (pv 4) (pe_fld (pv 4) rfl) (nomark _)) (pw_or (pt_cmpR (o_eq TE hr) (pv 4) (pe_tup (pa_cons (pe_fld (pv 4) rfl) (pa_cons (pe_fld (pv 4) rfl) pa_nil))) (nomark _)) (pw_or1 (pt_cmpR (o_eq TE hr) (pv 4) (pe_int) (nomark _)))))))
 (pss_one (ps_ret (pe_bl))) pss_nil))))))))))
 (pss_one (ps_ret ((pe_and (pe_cmpR (o_eq TE hr) (pe_kmk (kp_init TG) hr (by rfl) TG.mgC (pa_cons (pe_lst (pa_cons (pe_int) (pa_cons (pe_int) (pa_cons (pe_int) pa_nil)))) (pa_cons (pe_lst (pa_cons (pe_int) pa_nil)) pa_nil))) (pe_kmk (kp_init TG) hr (by rfl) TG.mgC (pa_cons (pe_lst (pa_cons (pe_int) (pa_cons (pe_int) pa_nil))) (pa_cons (pe_lst (pa_cons (pe_int) (pa_cons (pe_int) pa_nil))) pa_nil))) (nomark _)) (pe_one (pe_cmpR (op_eqD hr.units : OpR _ _ (rEqD K)) (pe_fld (pe_kmk (kp_init TG) hr (by rfl) TG.mgC (pa_cons (pe_lst (pa_cons (pe_int) (pa_cons (pe_non) pa_nil))) (pa_cons (pe_lst (pa_cons (pe_int) pa_nil)) pa_nil))) rfl) (pe_tup (pa_cons (pe_int) pa_nil)) (nomark _)))))))))), ?_⟩
    refine ⟨_, rfl, a, ns, rfl, hs, hlen, fun p c H1 hp0 hc0 s1 hp => ?_⟩
    refine ⟨_, rfl, by decide, by decide, ?_⟩
    refine for_it (walk_range (lo := 0) (n := 3)) (fun i σ H' => ∃ (v2 : Option V), σ = [some (.ref a), some (.ref p), v2, none, none, none, none, none, none] ∧ ∃ n, PenAt H' p c ns n ∧ n ≤ 200 * i)
      ⟨_, rfl, 0, hp, by omega⟩ (fun _ _ _ _ _ => True.intro) ?_ ?_
    · rintro i xv σ G0 G hi ⟨v2, rfl, n, hp, hn⟩ ⟨rfl, ex⟩
      refine ⟨_, rfl, p, c, ns, n, rfl, hp, hlen, by omega, fun n' H2 hp2 hn2 _ => ⟨true, rfl, iteF ⟨_, rfl, n', hp2, by omega⟩⟩⟩
    · rintro σ G ⟨v2, rfl, n, hp, hn⟩
      refine ⟨_, rfl, by decide, by decide, ?_⟩
      refine for_it (walk_range (lo := 0) (n := 14)) (fun i σ H' => ∃ (v2 v3 v4 v5 v6 v7 v8 : Option V), σ = [some (.ref a), some (.ref p), v2, v3, v4, v5, v6, v7, v8] ∧ ∃ n, PenAt H' p c ns n ∧ n ≤ 600 + 200 * i)
        ⟨_, _, _, _, _, _, _, rfl, n, hp, by omega⟩ (fun _ _ _ _ _ => True.intro) ?_ ?_
      · rintro i xv σ G0 G hi ⟨v2, v3, v4, v5, v6, v7, v8, rfl, n, hp, hn⟩ ⟨rfl, ex⟩
        refine ⟨_, rfl, p, c, ns, n, rfl, hp, hlen, by omega, fun z a1 b1 T0 G0 n1 H2 hpair sm hg hfa hfb hfz g1 g6 gt t9 hp2 hn2 fr2 => ?_⟩
        have zp := (PenAt.ne hp hfz).1
        have ap := (PenAt.ne hp hfa).1
        have bp := (PenAt.ne hp hfb).1
        refine ⟨_, rfl, _, _, _, _, rfl, rfl, SqT.of hpair.1, rfl, _, rfl, _, _, _, _, rfl, rfl, SqT.of hpair.1, rfl, fun xa dxa hx hdx ne => grow_mk (.inl (SqL.of hpair.2.1)) (.inl (SqL.of hpair.2.2)) g1 (by omega) gt (by omega) hx hdx ne fun T1 G1 H3 s3 hg1 nf1 l1 l1' => ?_⟩
        have hpair := hpair.same s3
        have hp3 := PenAt.same hp2 s3
        clear hx hdx ne hp2
        refine ⟨_, rfl, _, rfl, p, c, z, a1, b1, ns, n1, T0, G0, rfl, hp3, hlen, by omega, hpair, zp, ap, bp, g1, g6, gt, t9, hg, fun z2 a2 b2 times more G2 n2 H4 hpair2 wide t1 t3 mm m40 gb2 hp4 hn4 fr4 z2p a2p b2p => ?_⟩
        have hpair : PairAt H4 z a1 b1 T0 G0 := ⟨fr4 _ zp _ hpair.1, fr4 _ ap _ hpair.2.1, fr4 _ bp _ hpair.2.2⟩
        have hg1 := hg1.butL hp3 fr4
        refine ⟨_, rfl, _, rfl, p, c, z, a1, b1, ns, n2, T0, G0, rfl, hp4, hlen, by omega, hpair, zp, ap, bp, g1, g6, gt, t9, sm, hg, fun z3 a3 b3 T3 G3 n3 H5 hpair3 l3 l3' l3'' dif tb3 gb3 hp5 hn5 fr5 z3p a3p b3p => ?_⟩
        have hpair2 : PairAt H5 z2 a2 b2 (vals (valR T0 G0) more) G2 := ⟨fr5 _ z2p _ hpair2.1, fr5 _ a2p _ hpair2.2.1, fr5 _ b2p _ hpair2.2.2⟩
        have hg1 := hg1.butL hp4 fr5
        refine ⟨_, _, rfl, ?_⟩
        have lv : (vals (valR T0 G0) more).length = more := by
          unfold vals
          rw [List.length_map, List.length_range]
        have lw := wide.1
        have kn : times * G0.length ≤ 3 * 6 := Nat.mul_le_mul t3 g6
        have k1 : 1 * 1 ≤ times * G0.length := Nat.mul_le_mul t1 g1
        have km : times * G0.length ≤ more := by
          obtain ⟨k0, rfl⟩ : ∃ k0, times = k0 + 1 := ⟨times - 1, by omega⟩
          have : (k0 + 1) * G0.length = k0 * G0.length + G0.length := Nat.succ_mul _ _
          have mm : T0.length + k0 * G0.length ≤ more := mm
          omega
        refine ⟨_, rfl, _, _, _, _, rfl, rfl, SqT.of hpair2.1, rfl, a2, _, rfl, .inl ⟨SqL.of hpair2.2.1, fun tw htw => ?_⟩⟩
        have s6 : Same H5 (upd H5 tw (.tup ((vals (valR T0 G0) more).map vO))) := Same.new htw
        have gtw : upd H5 tw (.tup ((vals (valR T0 G0) more).map vO)) tw = some (.tup ((vals (valR T0 G0) more).map vO)) := upd_same
        generalize upd H5 tw (.tup ((vals (valR T0 G0) more).map vO)) = H6 at s6 gtw ⊢
        have hpair2 := hpair2.same s6
        refine ⟨_, rfl, _, _, _, _, rfl, rfl, SqT.of hpair2.1, rfl, fun xb dxb hx hdx ne => grow_mk (.inr (SqT.of gtw)) (.inl (SqL.of hpair2.2.2)) (by omega) (by omega) (by omega) (by omega) hx hdx ne fun T2 G2' H7 s7 hg2 nf2 _ _ => ?_⟩
        have nf2 := nf2.congr (F2 := valR T0 G0) (wide_val g1 gt t1 mm wide)
        obtain ⟨eT, eG⟩ := nf2.uniq nf1
        rw [eT, eG] at hg2
        clear eT eG hx hdx ne nf2
        have s7' := s6.trans s7
        have hpair3 := hpair3.same s7'
        have hg1 := hg1.same s7'
        have hp7 := PenAt.same hp5 s7'
        refine ⟨_, rfl, _, _, _, _, rfl, rfl, SqT.of hpair3.1, rfl, _, rfl, _, _, _, _, rfl, rfl, SqT.of hpair3.1, rfl, fun xc dxc hx hdx ne => grow_mk (.inl (SqL.of hpair3.2.1)) (.inl (SqL.of hpair3.2.2)) (by omega) (by omega) (by omega) (by omega) hx hdx ne fun T4 G4 H8 s8 hg3 nf3 l4 l4' => ?_⟩
        have hg1 := hg1.same s8
        have hg2 := hg2.same s8
        have hp8 := PenAt.same hp7 s8
        refine ⟨_, _, rfl, ?_⟩
        have dif2 : ¬ (T1 = T4 ∧ G1 = G4) := fun e => by
          obtain ⟨m, hm⟩ := dif
          exact hm ((Nf.eq_iff nf1 nf3).mp e m).symm
        obtain ⟨sT1, sG1⟩ := nf_small nf1 (by omega) (val_bound g1 gt (fun o ho v hv => by have := sm o ho v hv; omega) (fun v hv => by have := hg v hv; omega))
        obtain ⟨sT4, sG4⟩ := nf_small nf3 (by omega) (val_bound (by omega) (by omega) tb3 gb3)
        obtain ⟨da, ta, ga, e1, e2, e3⟩ := id hg1
        obtain ⟨db, tb, gb, f1, f2, f3⟩ := id hg2
        obtain ⟨dc, tc, gc, h1, h2, h3⟩ := id hg3
        dsimp only [tSeq, tAsg, tNext, tRet, tCons, tCB]
        refine ⟨_, rfl, _, rfl, xa, da, _, xb, db, _, rfl, e1, rfl, f1, .inl ⟨xa, xb, T1, T1, G1, G1, rfl, hg1, hg2, true, by rw [decide_eq_true (⟨rfl, rfl⟩ : T1 = T1 ∧ G1 = G1)], ?_⟩⟩
        refine ⟨_, rfl, iteF ?_⟩
        refine ⟨_, rfl, xa, _, da, _, _, rfl, e1, TG.cls, TG.nT, rfl, _, rfl, xa, _, da, _, _, rfl, e1, TG.cls, TG.nG, rfl, _, rfl, xa, da, _, rfl, e1, xa, T1, G1, rfl, hg1, sT1, sG1, by omega, by omega, fun H9 s9 => ⟨_, rfl, (by show 3 ≤ sizeLine; decide), fun u1 hu1 => ?_⟩⟩
        have s10 : Same H9 (upd H9 u1 (.tup [.ref ta, .ref ga, .str (rowS T1 G1)])) := Same.new hu1
        have gu1 : upd H9 u1 (.tup [.ref ta, .ref ga, .str (rowS T1 G1)]) u1 = some (.tup [.ref ta, .ref ga, .str (rowS T1 G1)]) := upd_same
        generalize upd H9 u1 (.tup [.ref ta, .ref ga, .str (rowS T1 G1)]) = H10 at s10 gu1 ⊢
        have s10' := s9.trans s10
        have f1' := s10' _ _ f1
        refine ⟨_, rfl, xb, _, db, _, _, rfl, f1', TG.cls, TG.nT, rfl, _, rfl, xb, _, db, _, _, rfl, f1', TG.cls, TG.nG, rfl, _, rfl, xb, db, _, rfl, f1', xb, T1, G1, rfl, hg2.same s10', sT1, sG1, by omega, by omega, fun H11 s11 => ⟨_, rfl, (by show 3 ≤ sizeLine; decide), fun u2 hu2 => ?_⟩⟩
        have s12 : Same H11 (upd H11 u2 (.tup [.ref tb, .ref gb, .str (rowS T1 G1)])) := Same.new hu2
        have gu2 : upd H11 u2 (.tup [.ref tb, .ref gb, .str (rowS T1 G1)]) u2 = some (.tup [.ref tb, .ref gb, .str (rowS T1 G1)]) := upd_same
        generalize upd H11 u2 (.tup [.ref tb, .ref gb, .str (rowS T1 G1)]) = H12 at s12 gu2 ⊢
        have s12' := s10'.trans (s11.trans s12)
        refine ⟨d3 T1 G1, d3 T1 G1, .tup (SqT.of (s12 _ _ (s11 _ _ gu1))) (.cons (.tup (SqT.new2 e2 s12') (dp_opts T1)) (.cons (.tup (SqT.new2 e3 s12') (dp_ints G1)) (.cons (.str _) .nil))),
          .tup (SqT.of gu2) (.cons (.tup (SqT.new2 f2 s12') (dp_opts T1)) (.cons (.tup (SqT.new2 f3 s12') (dp_ints G1)) (.cons (.str _) .nil))), shaped_three T1 G1, shaped_three T1 G1, ?_⟩
        rw [eqv_three]
        refine ⟨_, rfl, iteF ?_⟩
        have hg1 := hg1.same s12'
        have hg3 := hg3.same s12'
        have e1 := s12' _ _ e1
        have e2 := SqT.new2 e2 s12'
        have e3 := SqT.new2 e3 s12'
        have h1 := s12' _ _ h1
        have h2 := SqT.new2 h2 s12'
        have h3 := SqT.new2 h3 s12'
        have hp12 := PenAt.same hp8 s12'
        clear hu1 hu2 gu1 gu2 s9 s10 s11 s12 s10' s12' f1 f2 f3 f1' hg2 hpair hpair2 hpair3
        obtain ⟨q1, q2⟩ := nf1.len
        obtain ⟨q3, q4⟩ := nf3.len
        refine ⟨_, rfl, xa, _, da, _, _, rfl, e1, TG.cls, TG.nT, rfl, _, rfl, xa, _, da, _, _, rfl, e1, TG.cls, TG.nG, rfl, ta, ga, _, T1, G1, rfl, e2, e3, nf1, by omega, by omega, sG1, fun H13 s13 => ⟨true, rfl, ?_⟩⟩
        have h1' := s13 _ _ h1
        refine iteF ?_
        refine ⟨_, rfl, xc, _, dc, _, _, rfl, h1', TG.cls, TG.nT, rfl, _, rfl, xc, _, dc, _, _, rfl, h1', TG.cls, TG.nG, rfl, tc, gc, _, T4, G4, rfl, SqT.new2 h2 s13, SqT.new2 h3 s13, nf3, by omega, by omega, sG4, fun H14 s14 => ⟨true, rfl, iteF ?_⟩⟩
        have s14' := s13.trans s14
        have hg1 := hg1.same s14'
        have hg3 := hg3.same s14'
        have e1 := s14' _ _ e1
        have e2 := SqT.new2 e2 s14'
        have e3 := SqT.new2 e3 s14'
        have h1 := s14' _ _ h1
        have h2 := SqT.new2 h2 s14'
        have h3 := SqT.new2 h3 s14'
        have hp14 := PenAt.same hp12 s14'
        clear s13 s14 s14' h1' hp12
        dsimp only [tSeq, tAsg, tNext, tRet, tCons, tCB]
        refine ⟨_, rfl, _, rfl, xa, da, _, _, rfl, e1, .inl (.ins h1 TG.cls TE.iC TE.iG TE.iT TE.iM), TE.nF, .inl ⟨xa, xc, T1, T4, G1, G4, rfl, hg1, hg3, ?_⟩⟩
        rw [decide_eq_false dif2]
        refine ⟨_, rfl, iteF ?_⟩
        refine ⟨_, rfl, xa, _, da, _, _, rfl, e1, TG.cls, TG.nT, rfl, _, rfl, xa, _, da, _, _, rfl, e1, TG.cls, TG.nG, rfl, (by show 2 ≤ sizeLine; decide), fun u1 hu1 => ?_⟩
        have s15 : Same H14 (upd H14 u1 (.tup [.ref ta, .ref ga])) := Same.new hu1
        have gu1 : upd H14 u1 (.tup [.ref ta, .ref ga]) u1 = some (.tup [.ref ta, .ref ga]) := upd_same
        generalize upd H14 u1 (.tup [.ref ta, .ref ga]) = H15 at s15 gu1 ⊢
        have h1' := s15 _ _ h1
        refine ⟨_, rfl, xc, _, dc, _, _, rfl, h1', TG.cls, TG.nT, rfl, _, rfl, xc, _, dc, _, _, rfl, h1', TG.cls, TG.nG, rfl, (by show 2 ≤ sizeLine; decide), fun u2 hu2 => ?_⟩
        have s16 : Same H15 (upd H15 u2 (.tup [.ref tc, .ref gc])) := Same.new hu2
        have gu2 : upd H15 u2 (.tup [.ref tc, .ref gc]) u2 = some (.tup [.ref tc, .ref gc]) := upd_same
        generalize upd H15 u2 (.tup [.ref tc, .ref gc]) = H16 at s16 gu2 ⊢
        have s16' := s15.trans s16
        refine ⟨_, _, .tup (SqT.of (s16 _ _ gu1)) (.cons (.tup (SqT.new2 e2 s16') (dp_opts T1)) (.cons (.tup (SqT.new2 e3 s16') (dp_ints G1)) .nil)),
          .tup (SqT.of gu2) (.cons (.tup (SqT.new2 h2 s16') (dp_opts T4)) (.cons (.tup (SqT.new2 h3 s16') (dp_ints G4)) .nil)), shaped_pair T1 G1, shaped_pair T4 G4, ?_⟩
        rw [eqv_pair, decide_eq_false dif2]
        refine ⟨_, rfl, iteF ?_⟩
        refine ⟨_, rfl, xa, da, _, rfl, s16' _ _ e1, xa, T1, G1, rfl, hg1.same s16', sT1, sG1, by omega, by omega, fun H17 s17 => ⟨_, rfl, _, rfl, xc, dc, _, rfl, s17 _ _ (s16' _ _ h1), xc, T4, G4, rfl, (hg3.same s16').same s17, sT4, sG4, by omega, by omega, fun H18 s18 => ⟨_, rfl, rfl, ?_⟩⟩⟩
        rw [decide_eq_false (fun z => dif2 (row_inj (V.str.inj z)))]
        refine ⟨_, rfl, iteF ?_⟩
        have s18' := s16'.trans (s17.trans s18)
        have hg1 := hg1.same s18'
        have e1 := s18' _ _ e1
        have e2 := SqT.new2 e2 s18'
        have hp18 := PenAt.same hp14 s18'
        clear hu1 hu2 gu1 gu2 s15 s16 s17 s18 s16' s18' h1 h2 h3 h1' hg3 hp14 e3
        refine ⟨_, rfl, _, rfl, xa, da, _, rfl, e1, xa, T1, G1, rfl, hg1, sT1, sG1, by omega, by omega, fun H19 s19 => ⟨_, rfl, xa, da, _, _, rfl, s19 _ _ e1, .inl (.str _), TE.nT "str" (by decide), .inr ⟨xa, _, T1, G1, "str", rfl, hg1.same s19, .base (.str _), (by decide), ?_⟩⟩⟩
        refine ⟨_, rfl, iteF ?_⟩
        have hg1 := hg1.same s19
        have e1 := s19 _ _ e1
        have e2 := SqT.new2 e2 s19
        have hp19 := PenAt.same hp18 s19
        refine ⟨_, rfl, _, rfl, xa, _, da, _, _, rfl, e1, TG.cls, TG.nT, rfl, xa, da, _, _, rfl, e1, .inr ⟨ta, _, rfl, e2, rfl⟩, TE.nT "tuple" (by decide), .inr ⟨xa, _, T1, G1, "tuple", rfl, hg1, ty_tup e2, (by decide), ?_⟩⟩
        refine ⟨_, rfl, iteF ?_⟩
        refine ⟨_, rfl, _, rfl, xa, _, da, _, _, rfl, e1, TG.cls, TG.nT, rfl, _, rfl, xa, _, da, _, _, rfl, e1, TG.cls, TG.nG, rfl, (by show 2 ≤ sizeLine; decide), fun u3 hu3 => ?_⟩
        have s20 : Same H19 (upd H19 u3 (.tup [.ref ta, .ref ga])) := Same.new hu3
        have gu3 : upd H19 u3 (.tup [.ref ta, .ref ga]) u3 = some (.tup [.ref ta, .ref ga]) := upd_same
        generalize upd H19 u3 (.tup [.ref ta, .ref ga]) = H20 at s20 gu3 ⊢
        have hg1 := hg1.same s20
        have e1 := s20 _ _ e1
        have hp20 := PenAt.same hp19 s20
        refine ⟨xa, da, _, _, rfl, e1, .inr ⟨u3, _, rfl, SqT.of gu3, rfl⟩, TE.nT "tuple" (by decide), .inr ⟨xa, _, T1, G1, "tuple", rfl, hg1, ty_tup (SqT.of gu3), (by decide), ?_⟩⟩
        refine ⟨_, rfl, iteF ?_⟩
        refine ⟨_, rfl, xa, da, _, _, rfl, e1, .inl (.int _), TE.nT "int" (by decide), .inr ⟨xa, _, T1, G1, "int", rfl, hg1, .base (.int _), (by decide), ?_⟩⟩
        refine ⟨_, rfl, iteF ?_⟩
        exact ⟨_, _, _, _, _, _, _, rfl, n3, hp20, by omega⟩
      · rintro σ G ⟨v2, v3, v4, v5, v6, v7, v8, rfl, n, hp, hn⟩
        dsimp only [tSeq, tAsg, tNext, tRet, tCons, tCB, tAndV, tOp]
        refine ⟨by decide, fun l1 hl1 => ⟨by decide, fun l2 hl2 => ?_⟩⟩
        have q1 : upd (upd G l1 (.lst [.int 2, .int 2, .int 2])) l2 (.lst [.int 0]) l1 = some (.lst ([some 2, some 2, some 2].map vO)) := upd_new hl2 upd_same
        have q2 : upd (upd G l1 (.lst [.int 2, .int 2, .int 2])) l2 (.lst [.int 0]) l2 = some (.lst (([0] : List Int).map V.int)) := upd_same
        generalize upd (upd G l1 (.lst [.int 2, .int 2, .int 2])) l2 (.lst [.int 0]) = H2 at q1 q2 ⊢
        refine fun xa dxa hx hdx ne => grow_mk (T := [some 2, some 2, some 2]) (G := [0]) (.inl (SqL.of q1)) (.inl (SqL.of q2)) (by decide) (by decide) (by decide) (by decide) hx hdx ne fun T1 G1 H3 s3 hg1 nf1 _ _ => ?_
        clear hx hdx ne
        refine ⟨by decide, fun l3 hl3 => ⟨by decide, fun l4 hl4 => ?_⟩⟩
        have s4 : Same H3 (upd (upd H3 l3 (.lst [.int 2, .int 2])) l4 (.lst [.int 0, .int 0])) := (Same.new hl3).trans (Same.new hl4)
        have q3 : upd (upd H3 l3 (.lst [.int 2, .int 2])) l4 (.lst [.int 0, .int 0]) l3 = some (.lst ([some 2, some 2].map vO)) := upd_new hl4 upd_same
        have q4 : upd (upd H3 l3 (.lst [.int 2, .int 2])) l4 (.lst [.int 0, .int 0]) l4 = some (.lst (([0, 0] : List Int).map V.int)) := upd_same
        generalize upd (upd H3 l3 (.lst [.int 2, .int 2])) l4 (.lst [.int 0, .int 0]) = H4 at s4 q3 q4 ⊢
        refine fun xb dxb hx hdx ne => grow_mk (T := [some 2, some 2]) (G := [0, 0]) (.inl (SqL.of q3)) (.inl (SqL.of q4)) (by decide) (by decide) (by decide) (by decide) hx hdx ne fun T2 G2 H5 s5 hg2 nf2 _ _ => ?_
        clear hx hdx ne
        have c1 : ∀ n, valR [some 2, some 2, some 2] [0] n = some 2 := const_two (by decide) (by decide) (by decide) (by decide)
        have c2 : ∀ n, valR [some 2, some 2] [0, 0] n = some 2 := const_two (by decide) (by decide) (by decide) (by decide)
        obtain ⟨eT, eG⟩ := (nf1.congr (F2 := fun _ => some 2) c1).uniq (nf2.congr (F2 := fun _ => some 2) c2)
        have hg1 := hg1.same (s4.trans s5)
        obtain ⟨da, ta, ga, e1, e2, e3⟩ := id hg1
        obtain ⟨db, tb, gb, f1, f2, f3⟩ := id hg2
        refine ⟨xa, da, _, _, rfl, e1, .inl (.ins f1 TG.cls TE.iC TE.iG TE.iT TE.iM), TE.nF, .inl ⟨xa, xb, T1, T2, G1, G2, rfl, hg1, hg2, ?_⟩⟩
        rw [decide_eq_true (⟨eT, eG⟩ : T1 = T2 ∧ G1 = G2)]
        refine ⟨_, rfl, iteT ?_⟩
        refine ⟨by decide, fun l5 hl5 => ⟨by decide, fun l6 hl6 => ?_⟩⟩
        have q5 : upd (upd H5 l5 (.lst [.int 7, .non])) l6 (.lst [.int 5]) l5 = some (.lst ([some 7, none].map vO)) := upd_new hl6 upd_same
        have q6 : upd (upd H5 l5 (.lst [.int 7, .non])) l6 (.lst [.int 5]) l6 = some (.lst (([5] : List Int).map V.int)) := upd_same
        generalize upd (upd H5 l5 (.lst [.int 7, .non])) l6 (.lst [.int 5]) = H6 at q5 q6 ⊢
        refine fun xc dxc hx hdx ne => grow_mk (T := [some 7, none]) (G := [5]) (.inl (SqL.of q5)) (.inl (SqL.of q6)) (by decide) (by decide) (by decide) (by decide) hx hdx ne fun T3 G3 H7 s7 hg3 nf3 _ _ => ?_
        obtain rfl := seven nf3
        obtain ⟨dc, tc, gc, h1, h2, h3⟩ := id hg3
        refine ⟨xc, _, dc, _, _, rfl, h1, TG.cls, TG.nG, rfl, (by show 1 ≤ sizeLine; decide), fun u hu => ?_⟩
        have s8 : Same H7 (upd H7 u (.tup [.int 0])) := Same.new hu
        refine ⟨_, _, .tup (SqT.new2 h3 s8) (dp_ints [0]), .tup (SqT.of upd_same) (dp_ints [0]), shaped_intsT [0], shaped_intsT [0], ?_⟩
        rw [eqv_intsT, decide_eq_true rfl]
        exact k _
end
end KG
namespace KG
open PySem L2
def intB (K : PySem.W.Frag) (x : Str) (i : Int) : Bool := match PySem.W.nsIn K mainGlobals x with
  | some (some (.int j _)) => decide (j = i)
  | _ => false
def clsB (K : PySem.W.Frag) (C : Addr) : Bool :=
  PySem.W.plainGet K C Str.empty && (PySem.W.hasDictIn K C && (PySem.W.plainOver K C &&
  (decide (PySem.W.findIn K (.ref C) "__setattr__" = some (some (.builtin "object.__setattr__"))) &&
  (decide (PySem.W.findIn K (.ref C) "told" = some none) && (decide (PySem.W.findIn K (.ref C) "gains" = some none) &&
  (PySem.W.makesIn K C && (PySem.W.keepIn K (.ref C) && (PySem.W.readsIn K C (.type "type") &&
  decide (PySem.W.specialIn K (.ref C) "__getattribute__" = some (some (.builtin "type.__getattribute__")))))))))))
def cls2B (K : PySem.W.Frag) (C : Addr) : Bool :=
  decide (PySem.W.findIn K (.ref C) "__class__" = some (some (.builtin "object.__class__"))) && (decide (PySem.W.specialIn K (.builtin "object.__class__") "__get__" = some (some (.builtin "getset_descriptor.__get__"))) && (decide (PySem.W.takesIn K (.builtin "object.__class__") = some true) && (decide (PySem.W.mroIn K C (.type "object") = some true) && (decide (PySem.W.kitOne K (.ref C) (.ref C) = some true) && (decide (PySem.W.kitOne K (.type "int") (.ref C) = some false) && (decide (PySem.W.kitOne K (.type "str") (.ref C) = some false) && (decide (PySem.W.kitOne K (.type "tuple") (.ref C) = some false) && (decide (PySem.W.kitOne K (.ref C) (.type "int") = some false) && (decide (PySem.W.notFirst K C (.ref C) = true) && (decide (PySem.W.notFirst K C (.type "int") = true) && (decide (PySem.W.notFirst K C (.type "str") = true) && (decide (PySem.W.notFirst K C (.type "tuple") = true) && (decide (PySem.W.selfFirst K C = true) && (decide (PySem.W.plainIn K C = true) && (decide (PySem.W.subIn K (.ref C) (.type "object") = some true) && (decide (PySem.W.subIn K (.type "int") (.ref C) = some false) && (decide (PySem.W.subIn K (.ref C) (.type "int") = some false) && (decide (PySem.W.findIn K (.ref C) "__ne__" = some (some (.builtin "object.__ne__")))))))))))))))))))))
def chk (K : PySem.W.Frag) : Bool :=
  (blts.all fun x => decide (PySem.W.nsIn K mainGlobals x = some none)) &&
  (intB K "MOST_GAINS" 60 && (intB K "MOST_TOLD" 4000 && (decide (PySem.W.nsIn K mainGlobals "lcm" = some (some (.builtin "math.lcm"))) &&
  (match PySem.W.nsIn K mainGlobals "Growth" with
    | some (some (.ref C)) => clsB K C && cls2B K C
    | _ => false))))
def dflT (K : PySem.W.Frag) (T : Addr) : Bool := match K.lookup T with
  | some ⟨_, _, .seq its _, _⟩ => match its.toList with
    | [.ref d] => match K.lookup d with
      | some ⟨.type t, _, .seq its2 _, _⟩ => decide (t = "tuple") && (match its2.toList with
        | [.int i _] => decide (i = 0)
        | _ => false)
      | _ => false
    | _ => false
  | _ => false
section
variable {K : PySem.W.Frag} {mg : Str → Option Value} {h : Heap}
theorem int_of {x : Str} {i : Int} (X : K.In h) (G : h.Ns mainGlobals mg) (e : intB K x i = true) : ∃ t, mg x = some (.int i t) := by
  unfold intB at e
  split at e
  · rename_i j t hj
    have : j = i := of_decide_eq_true e
    subst this
    exact ⟨t, PySem.W.mg_of X G hj⟩
  · cases e
theorem dflT_of {T : Addr} (e : dflT K T = true) : ∃ d, (DflV K (.ref T) [.ref d]) ∧ ∀ H, SqT K H d [.int 0] := by
  unfold dflT at e
  split at e
  · rename_i c dd its n sl ho
    split at e
    · rename_i d hd
      split at e
      · rename_i t dd2 its2 n2 sl2 ho2
        simp only [Bool.and_eq_true, decide_eq_true_eq] at e
        obtain ⟨e1, e2⟩ := e
        split at e2
        · rename_i i tk hi
          have : i = 0 := of_decide_eq_true e2
          subst this
          subst e1
          refine ⟨d, .inr ⟨by simp, T, _, [.ref d], n, rfl, ho, ?_, .cons rfl .nil⟩, fun H => .inr ⟨_, its2, n2, ho2, rfl, rfl, ?_, ?_⟩⟩
          · show Data.seq its n = Data.seq [Value.ref d].toArray n
            rw [← hd]
          · have : its2.size = 1 := by
              rw [← Array.length_toList, hi]
              rfl
            rw [this]
            decide
          · rw [hi]
            exact .cons ⟨tk, rfl⟩ .nil
        · cases e2
      · cases e
    · cases e
  · cases e
theorem md0 {x q : Str} {st : Stmt} {f : Addr} {od an : Option Addr} {sl : Array (Option Value)} {oc kV dc pm cd ct : Value}
    (l : K.lookup f = some ⟨oc, od, .func (PySem.W.fnOf x q (defArgs st) (defBody st) (defScope st) .none kV dc pm an cd ct), sl⟩)
    (c : PySem.W.codeIn K cd q = true) (k : PySem.W.keepIn K (.ref f) = true) :
    MD K x q st [] f (PySem.W.fnOf x q (defArgs st) (defBody st) (defScope st) .none kV dc pm an cd ct) :=
  ⟨⟨oc, od, .none, kV, dc, pm, an, cd, ct, sl, rfl, l, c, .inl ⟨rfl, rfl⟩, .inl rfl⟩, k⟩
theorem md1 {x q : Str} {st : Stmt} {f T : Addr} {dvs : List V} {od an : Option Addr} {sl : Array (Option Value)} {oc kV dc pm cd ct : Value}
    (l : K.lookup f = some ⟨oc, od, .func (PySem.W.fnOf x q (defArgs st) (defBody st) (defScope st) (.ref T) kV dc pm an cd ct), sl⟩)
    (c : PySem.W.codeIn K cd q = true) (k : PySem.W.keepIn K (.ref f) = true) (d : DflV K (.ref T) dvs) :
    MD K x q st dvs f (PySem.W.fnOf x q (defArgs st) (defBody st) (defScope st) (.ref T) kV dc pm an cd ct) :=
  ⟨⟨oc, od, .ref T, kV, dc, pm, an, cd, ct, sl, rfl, l, c, d, .inl rfl⟩, k⟩
theorem prop_mk {C p g : Addr} {f : Str} {rest : List Value} (a : PySem.W.findIn K (.ref C) f = some (some (.ref p)))
    (b : PySem.W.recIn K p "property" = some (.ref g :: rest)) (c : PySem.W.specialIn K (.ref p) "__get__" = some (some (.builtin "property.__get__")))
    (d : PySem.W.takesIn K (.ref p) = some true) : PropOf K C f p g := ⟨a, c, d, rest, b⟩
end
theorem fin_mk {P : Program} {w : World} {K : PySem.W.Frag} {mg : Str → Option Value} {h : Heap} {fa : Addr} (X : K.In h) (G : h.Ns mainGlobals mg)
    (hmg : mg "law" = some (.ref fa)) (c : chk K = true)
    {C : Addr}
    {f0 : Addr} {od0 an0 : Option Addr} {sl0 : Array (Option Value)} {oc0 kV0 dc0 pm0 cd0 ct0 : Value}
    {f1 : Addr} {od1 an1 : Option Addr} {sl1 : Array (Option Value)} {oc1 kV1 dc1 pm1 cd1 ct1 : Value}
    {f2 : Addr} {od2 an2 : Option Addr} {sl2 : Array (Option Value)} {oc2 kV2 dc2 pm2 cd2 ct2 : Value}
    {f3 : Addr} {od3 an3 : Option Addr} {sl3 : Array (Option Value)} {oc3 kV3 dc3 pm3 cd3 ct3 : Value}
    {f4 : Addr} {od4 an4 : Option Addr} {sl4 : Array (Option Value)} {oc4 kV4 dc4 pm4 cd4 ct4 : Value}
    {f5 : Addr} {od5 an5 : Option Addr} {sl5 : Array (Option Value)} {oc5 kV5 dc5 pm5 cd5 ct5 : Value}
    {f6 : Addr} {od6 an6 : Option Addr} {sl6 : Array (Option Value)} {oc6 kV6 dc6 pm6 cd6 ct6 : Value}
    {f7 : Addr} {od7 an7 : Option Addr} {sl7 : Array (Option Value)} {oc7 kV7 dc7 pm7 cd7 ct7 : Value}
    {f8 : Addr} {od8 an8 : Option Addr} {sl8 : Array (Option Value)} {oc8 kV8 dc8 pm8 cd8 ct8 : Value}
    {f9 : Addr} {od9 an9 : Option Addr} {sl9 : Array (Option Value)} {oc9 kV9 dc9 pm9 cd9 ct9 : Value}
    {f10 : Addr} {od10 an10 : Option Addr} {sl10 : Array (Option Value)} {oc10 kV10 dc10 pm10 cd10 ct10 : Value}
    {f11 : Addr} {od11 an11 : Option Addr} {sl11 : Array (Option Value)} {oc11 kV11 dc11 pm11 cd11 ct11 : Value}
    {f12 : Addr} {od12 an12 : Option Addr} {sl12 : Array (Option Value)} {oc12 kV12 dc12 pm12 cd12 ct12 : Value}
    {f13 : Addr} {od13 an13 : Option Addr} {sl13 : Array (Option Value)} {oc13 kV13 dc13 pm13 cd13 ct13 : Value}
    {f14 : Addr} {od14 an14 : Option Addr} {sl14 : Array (Option Value)} {oc14 kV14 dc14 pm14 cd14 ct14 : Value}
    {f15 : Addr} {od15 an15 : Option Addr} {sl15 : Array (Option Value)} {oc15 kV15 dc15 pm15 cd15 ct15 : Value}
    {f16 : Addr} {od16 an16 : Option Addr} {sl16 : Array (Option Value)} {oc16 kV16 dc16 pm16 cd16 ct16 : Value}
    {f17 : Addr} {od17 an17 : Option Addr} {sl17 : Array (Option Value)} {oc17 kV17 dc17 pm17 cd17 ct17 : Value}
    {f18 : Addr} {od18 an18 : Option Addr} {sl18 : Array (Option Value)} {oc18 kV18 dc18 pm18 cd18 ct18 : Value}
    {f19 : Addr} {od19 an19 : Option Addr} {sl19 : Array (Option Value)} {oc19 kV19 dc19 pm19 cd19 ct19 : Value}
    {f20 : Addr} {od20 an20 : Option Addr} {sl20 : Array (Option Value)} {oc20 kV20 dc20 pm20 cd20 ct20 : Value}
    {f21 : Addr} {od21 an21 : Option Addr} {sl21 : Array (Option Value)} {oc21 kV21 dc21 pm21 cd21 ct21 : Value}
    {f22 : Addr} {od22 an22 : Option Addr} {sl22 : Array (Option Value)} {oc22 kV22 dc22 pm22 cd22 ct22 : Value}
    {f23 : Addr} {od23 an23 : Option Addr} {sl23 : Array (Option Value)} {oc23 kV23 dc23 pm23 cd23 ct23 : Value}
    {f24 : Addr} {od24 an24 : Option Addr} {sl24 : Array (Option Value)} {oc24 kV24 dc24 pm24 cd24 ct24 : Value}
    {f40 : Addr} {od40 an40 : Option Addr} {sl40 : Array (Option Value)} {oc40 kV40 dc40 pm40 cd40 ct40 : Value} {T40 : Addr}
    {f41 : Addr} {od41 an41 : Option Addr} {sl41 : Array (Option Value)} {oc41 kV41 dc41 pm41 cd41 ct41 : Value} {p41 : Addr} {r41 : List Value}
    {f50 : Addr} {od50 an50 : Option Addr} {sl50 : Array (Option Value)} {oc50 kV50 dc50 pm50 cd50 ct50 : Value}
    {f51 : Addr} {od51 an51 : Option Addr} {sl51 : Array (Option Value)} {oc51 kV51 dc51 pm51 cd51 ct51 : Value}
    {f52 : Addr} {od52 an52 : Option Addr} {sl52 : Array (Option Value)} {oc52 kV52 dc52 pm52 cd52 ct52 : Value}
    {f53 : Addr} {od53 an53 : Option Addr} {sl53 : Array (Option Value)} {oc53 kV53 dc53 pm53 cd53 ct53 : Value}
    {radd : Addr}
    {rmul : Addr}
    (a0 : PySem.W.nsIn K mainGlobals "is_integer" = some (some (.ref f0)))
    (l0 : K.lookup f0 = some ⟨oc0, od0, .func (PySem.W.fnOf "is_integer" "is_integer" (defArgs s_isint) (defBody s_isint) (defScope s_isint) .none kV0 dc0 pm0 an0 cd0 ct0), sl0⟩)
    (c0 : PySem.W.codeIn K cd0 "is_integer" = true) (k0 : PySem.W.keepIn K (.ref f0) = true)
    (a1 : PySem.W.nsIn K mainGlobals "are_gains" = some (some (.ref f1)))
    (l1 : K.lookup f1 = some ⟨oc1, od1, .func (PySem.W.fnOf "are_gains" "are_gains" (defArgs s_aregains) (defBody s_aregains) (defScope s_aregains) .none kV1 dc1 pm1 an1 cd1 ct1), sl1⟩)
    (c1 : PySem.W.codeIn K cd1 "are_gains" = true) (k1 : PySem.W.keepIn K (.ref f1) = true)
    (a2 : PySem.W.nsIn K mainGlobals "are_told" = some (some (.ref f2)))
    (l2 : K.lookup f2 = some ⟨oc2, od2, .func (PySem.W.fnOf "are_told" "are_told" (defArgs s_aretold) (defBody s_aretold) (defScope s_aretold) .none kV2 dc2 pm2 an2 cd2 ct2), sl2⟩)
    (c2 : PySem.W.codeIn K cd2 "are_told" = true) (k2 : PySem.W.keepIn K (.ref f2) = true)
    (a3 : PySem.W.nsIn K mainGlobals "begin_back" = some (some (.ref f3)))
    (l3 : K.lookup f3 = some ⟨oc3, od3, .func (PySem.W.fnOf "begin_back" "begin_back" (defArgs s_beginback) (defBody s_beginback) (defScope s_beginback) .none kV3 dc3 pm3 an3 cd3 ct3), sl3⟩)
    (c3 : PySem.W.codeIn K cd3 "begin_back" = true) (k3 : PySem.W.keepIn K (.ref f3) = true)
    (a4 : PySem.W.nsIn K mainGlobals "is_period" = some (some (.ref f4)))
    (l4 : K.lookup f4 = some ⟨oc4, od4, .func (PySem.W.fnOf "is_period" "is_period" (defArgs s_isperiod) (defBody s_isperiod) (defScope s_isperiod) .none kV4 dc4 pm4 an4 cd4 ct4), sl4⟩)
    (c4 : PySem.W.codeIn K cd4 "is_period" = true) (k4 : PySem.W.keepIn K (.ref f4) = true)
    (a5 : PySem.W.nsIn K mainGlobals "least_period" = some (some (.ref f5)))
    (l5 : K.lookup f5 = some ⟨oc5, od5, .func (PySem.W.fnOf "least_period" "least_period" (defArgs s_leastperiod) (defBody s_leastperiod) (defScope s_leastperiod) .none kV5 dc5 pm5 an5 cd5 ct5), sl5⟩)
    (c5 : PySem.W.codeIn K cd5 "least_period" = true) (k5 : PySem.W.keepIn K (.ref f5) = true)
    (a6 : PySem.W.nsIn K mainGlobals "settled" = some (some (.ref f6)))
    (l6 : K.lookup f6 = some ⟨oc6, od6, .func (PySem.W.fnOf "settled" "settled" (defArgs s_settled) (defBody s_settled) (defScope s_settled) .none kV6 dc6 pm6 an6 cd6 ct6), sl6⟩)
    (c6 : PySem.W.codeIn K cd6 "settled" = true) (k6 : PySem.W.keepIn K (.ref f6) = true)
    (a7 : PySem.W.nsIn K mainGlobals "values_to" = some (some (.ref f7)))
    (l7 : K.lookup f7 = some ⟨oc7, od7, .func (PySem.W.fnOf "values_to" "values_to" (defArgs s_valuesto) (defBody s_valuesto) (defScope s_valuesto) .none kV7 dc7 pm7 an7 cd7 ct7), sl7⟩)
    (c7 : PySem.W.codeIn K cd7 "values_to" = true) (k7 : PySem.W.keepIn K (.ref f7) = true)
    (a8 : PySem.W.nsIn K mainGlobals "common_period" = some (some (.ref f8)))
    (l8 : K.lookup f8 = some ⟨oc8, od8, .func (PySem.W.fnOf "common_period" "common_period" (defArgs s_comper) (defBody s_comper) (defScope s_comper) .none kV8 dc8 pm8 an8 cd8 ct8), sl8⟩)
    (c8 : PySem.W.codeIn K cd8 "common_period" = true) (k8 : PySem.W.keepIn K (.ref f8) = true)
    (a9 : PySem.W.nsIn K mainGlobals "common_begin" = some (some (.ref f9)))
    (l9 : K.lookup f9 = some ⟨oc9, od9, .func (PySem.W.fnOf "common_begin" "common_begin" (defArgs s_combeg) (defBody s_combeg) (defScope s_combeg) .none kV9 dc9 pm9 an9 cd9 ct9), sl9⟩)
    (c9 : PySem.W.codeIn K cd9 "common_begin" = true) (k9 : PySem.W.keepIn K (.ref f9) = true)
    (a10 : PySem.W.nsIn K mainGlobals "gain_over" = some (some (.ref f10)))
    (l10 : K.lookup f10 = some ⟨oc10, od10, .func (PySem.W.fnOf "gain_over" "gain_over" (defArgs s_gainover) (defBody s_gainover) (defScope s_gainover) .none kV10 dc10 pm10 an10 cd10 ct10), sl10⟩)
    (c10 : PySem.W.codeIn K cd10 "gain_over" = true) (k10 : PySem.W.keepIn K (.ref f10) = true)
    (a11 : PySem.W.nsIn K mainGlobals "summed" = some (some (.ref f11)))
    (l11 : K.lookup f11 = some ⟨oc11, od11, .func (PySem.W.fnOf "summed" "summed" (defArgs s_summed) (defBody s_summed) (defScope s_summed) .none kV11 dc11 pm11 an11 cd11 ct11), sl11⟩)
    (c11 : PySem.W.codeIn K cd11 "summed" = true) (k11 : PySem.W.keepIn K (.ref f11) = true)
    (a12 : PySem.W.nsIn K mainGlobals "row_words" = some (some (.ref f12)))
    (l12 : K.lookup f12 = some ⟨oc12, od12, .func (PySem.W.fnOf "row_words" "row_words" (defArgs s_roww) (defBody s_roww) (defScope s_roww) .none kV12 dc12 pm12 an12 cd12 ct12), sl12⟩)
    (c12 : PySem.W.codeIn K cd12 "row_words" = true) (k12 : PySem.W.keepIn K (.ref f12) = true)
    (a13 : PySem.W.nsIn K mainGlobals "made" = some (some (.ref f13)))
    (l13 : K.lookup f13 = some ⟨oc13, od13, .func (PySem.W.fnOf "made" "made" (defArgs s_made) (defBody s_made) (defScope s_made) .none kV13 dc13 pm13 an13 cd13 ct13), sl13⟩)
    (c13 : PySem.W.codeIn K cd13 "made" = true) (k13 : PySem.W.keepIn K (.ref f13) = true)
    (a14 : PySem.W.nsIn K mainGlobals "_law_pen" = some (some (.ref f14)))
    (l14 : K.lookup f14 = some ⟨oc14, od14, .func (PySem.W.fnOf "_law_pen" "_law_pen" (defArgs s_lpen) (defBody s_lpen) (defScope s_lpen) .none kV14 dc14 pm14 an14 cd14 ct14), sl14⟩)
    (c14 : PySem.W.codeIn K cd14 "_law_pen" = true) (k14 : PySem.W.keepIn K (.ref f14) = true)
    (a15 : PySem.W.nsIn K mainGlobals "_law_draw" = some (some (.ref f15)))
    (l15 : K.lookup f15 = some ⟨oc15, od15, .func (PySem.W.fnOf "_law_draw" "_law_draw" (defArgs s_ldraw) (defBody s_ldraw) (defScope s_ldraw) .none kV15 dc15 pm15 an15 cd15 ct15), sl15⟩)
    (c15 : PySem.W.codeIn K cd15 "_law_draw" = true) (k15 : PySem.W.keepIn K (.ref f15) = true)
    (a16 : PySem.W.nsIn K mainGlobals "_law_pick" = some (some (.ref f16)))
    (l16 : K.lookup f16 = some ⟨oc16, od16, .func (PySem.W.fnOf "_law_pick" "_law_pick" (defArgs s_lpick) (defBody s_lpick) (defScope s_lpick) .none kV16 dc16 pm16 an16 cd16 ct16), sl16⟩)
    (c16 : PySem.W.codeIn K cd16 "_law_pick" = true) (k16 : PySem.W.keepIn K (.ref f16) = true)
    (a17 : PySem.W.nsIn K mainGlobals "_law_told" = some (some (.ref f17)))
    (l17 : K.lookup f17 = some ⟨oc17, od17, .func (PySem.W.fnOf "_law_told" "_law_told" (defArgs s_ltold) (defBody s_ltold) (defScope s_ltold) .none kV17 dc17 pm17 an17 cd17 ct17), sl17⟩)
    (c17 : PySem.W.codeIn K cd17 "_law_told" = true) (k17 : PySem.W.keepIn K (.ref f17) = true)
    (a18 : PySem.W.nsIn K mainGlobals "_law_at" = some (some (.ref f18)))
    (l18 : K.lookup f18 = some ⟨oc18, od18, .func (PySem.W.fnOf "_law_at" "_law_at" (defArgs s_lat) (defBody s_lat) (defScope s_lat) .none kV18 dc18 pm18 an18 cd18 ct18), sl18⟩)
    (c18 : PySem.W.codeIn K cd18 "_law_at" = true) (k18 : PySem.W.keepIn K (.ref f18) = true)
    (a19 : PySem.W.nsIn K mainGlobals "_law_is_normal" = some (some (.ref f19)))
    (l19 : K.lookup f19 = some ⟨oc19, od19, .func (PySem.W.fnOf "_law_is_normal" "_law_is_normal" (defArgs s_lisnormal) (defBody s_lisnormal) (defScope s_lisnormal) .none kV19 dc19 pm19 an19 cd19 ct19), sl19⟩)
    (c19 : PySem.W.codeIn K cd19 "_law_is_normal" = true) (k19 : PySem.W.keepIn K (.ref f19) = true)
    (a20 : PySem.W.nsIn K mainGlobals "_law_repeats" = some (some (.ref f20)))
    (l20 : K.lookup f20 = some ⟨oc20, od20, .func (PySem.W.fnOf "_law_repeats" "_law_repeats" (defArgs s_lrepeats) (defBody s_lrepeats) (defScope s_lrepeats) .none kV20 dc20 pm20 an20 cd20 ct20), sl20⟩)
    (c20 : PySem.W.codeIn K cd20 "_law_repeats" = true) (k20 : PySem.W.keepIn K (.ref f20) = true)
    (a21 : PySem.W.nsIn K mainGlobals "_law_longer" = some (some (.ref f21)))
    (l21 : K.lookup f21 = some ⟨oc21, od21, .func (PySem.W.fnOf "_law_longer" "_law_longer" (defArgs s_llonger) (defBody s_llonger) (defScope s_llonger) .none kV21 dc21 pm21 an21 cd21 ct21), sl21⟩)
    (c21 : PySem.W.codeIn K cd21 "_law_longer" = true) (k21 : PySem.W.keepIn K (.ref f21) = true)
    (a22 : PySem.W.nsIn K mainGlobals "_law_bent" = some (some (.ref f22)))
    (l22 : K.lookup f22 = some ⟨oc22, od22, .func (PySem.W.fnOf "_law_bent" "_law_bent" (defArgs s_lbent) (defBody s_lbent) (defScope s_lbent) .none kV22 dc22 pm22 an22 cd22 ct22), sl22⟩)
    (c22 : PySem.W.codeIn K cd22 "_law_bent" = true) (k22 : PySem.W.keepIn K (.ref f22) = true)
    (a23 : PySem.W.nsIn K mainGlobals "_law_wide_right" = some (some (.ref f23)))
    (l23 : K.lookup f23 = some ⟨oc23, od23, .func (PySem.W.fnOf "_law_wide_right" "_law_wide_right" (defArgs s_lwideright) (defBody s_lwideright) (defScope s_lwideright) .none kV23 dc23 pm23 an23 cd23 ct23), sl23⟩)
    (c23 : PySem.W.codeIn K cd23 "_law_wide_right" = true) (k23 : PySem.W.keepIn K (.ref f23) = true)
    (a24 : PySem.W.nsIn K mainGlobals "law" = some (some (.ref f24)))
    (l24 : K.lookup f24 = some ⟨oc24, od24, .func (PySem.W.fnOf "law" "law" (defArgs s_law) (defBody s_law) (defScope s_law) .none kV24 dc24 pm24 an24 cd24 ct24), sl24⟩)
    (c24 : PySem.W.codeIn K cd24 "law" = true) (k24 : PySem.W.keepIn K (.ref f24) = true)
    (A : PySem.W.nsIn K mainGlobals "Growth" = some (some (.ref C)))
    (I40 : PySem.W.findIn K (.ref C) "__init__" = some (some (.ref f40)))
    (J40 : PySem.W.isFn K (.ref f40) = true)
    (l40 : K.lookup f40 = some ⟨oc40, od40, .func (PySem.W.fnOf "__init__" "Growth.__init__" (defArgs s_init) (defBody s_init) (defScope s_init) (.ref T40) kV40 dc40 pm40 an40 cd40 ct40), sl40⟩)
    (c40 : PySem.W.codeIn K cd40 "Growth.__init__" = true) (k40 : PySem.W.keepIn K (.ref f40) = true)
    (D40 : dflT K T40 = true)
    (P41 : PySem.W.findIn K (.ref C) "period" = some (some (.ref p41)))
    (R41 : PySem.W.recIn K p41 "property" = some (.ref f41 :: r41))
    (S41 : PySem.W.specialIn K (.ref p41) "__get__" = some (some (.builtin "property.__get__"))) (W41 : PySem.W.takesIn K (.ref p41) = some true)
    (l41 : K.lookup f41 = some ⟨oc41, od41, .func (PySem.W.fnOf "period" "Growth.period" (defArgs s_period) (defBody s_period) (defScope s_period) .none kV41 dc41 pm41 an41 cd41 ct41), sl41⟩)
    (c41 : PySem.W.codeIn K cd41 "Growth.period" = true) (k41 : PySem.W.keepIn K (.ref f41) = true)
    (I50 : PySem.W.findIn K (.ref C) "__eq__" = some (some (.ref f50)))
    (J50 : PySem.W.isFn K (.ref f50) = true)
    (l50 : K.lookup f50 = some ⟨oc50, od50, .func (PySem.W.fnOf "__eq__" "Growth.__eq__" (defArgs s_eq) (defBody s_eq) (defScope s_eq) .none kV50 dc50 pm50 an50 cd50 ct50), sl50⟩)
    (c50 : PySem.W.codeIn K cd50 "Growth.__eq__" = true) (k50 : PySem.W.keepIn K (.ref f50) = true)
    (I51 : PySem.W.findIn K (.ref C) "__add__" = some (some (.ref f51)))
    (J51 : PySem.W.isFn K (.ref f51) = true)
    (l51 : K.lookup f51 = some ⟨oc51, od51, .func (PySem.W.fnOf "__add__" "Growth.__add__" (defArgs s_add) (defBody s_add) (defScope s_add) .none kV51 dc51 pm51 an51 cd51 ct51), sl51⟩)
    (c51 : PySem.W.codeIn K cd51 "Growth.__add__" = true) (k51 : PySem.W.keepIn K (.ref f51) = true)
    (I52 : PySem.W.findIn K (.ref C) "__mul__" = some (some (.ref f52)))
    (J52 : PySem.W.isFn K (.ref f52) = true)
    (l52 : K.lookup f52 = some ⟨oc52, od52, .func (PySem.W.fnOf "__mul__" "Growth.__mul__" (defArgs s_mul) (defBody s_mul) (defScope s_mul) .none kV52 dc52 pm52 an52 cd52 ct52), sl52⟩)
    (c52 : PySem.W.codeIn K cd52 "Growth.__mul__" = true) (k52 : PySem.W.keepIn K (.ref f52) = true)
    (I53 : PySem.W.findIn K (.ref C) "__str__" = some (some (.ref f53)))
    (J53 : PySem.W.isFn K (.ref f53) = true)
    (l53 : K.lookup f53 = some ⟨oc53, od53, .func (PySem.W.fnOf "__str__" "Growth.__str__" (defArgs s_str) (defBody s_str) (defScope s_str) .none kV53 dc53 pm53 an53 cd53 ct53), sl53⟩)
    (c53 : PySem.W.codeIn K cd53 "Growth.__str__" = true) (k53 : PySem.W.keepIn K (.ref f53) = true)
    (Iradd : PySem.W.findIn K (.ref C) "__radd__" = some (some (.ref radd)))
    (Irmul : PySem.W.findIn K (.ref C) "__rmul__" = some (some (.ref rmul)))
    : ∃ fd : FuncData, (∀ (s : Shared) (u : Value), BindsTo s fd ⟨[u], []⟩ [("_law_script", u)]) ∧ ∀ base : Heap, K.In base → base.Ns mainGlobals mg →
      FnG P w K mg base CX0 14 fa fd ["_law_script"] (spLaw K) := by
  have d0 : OwnD K mg "is_integer" s_isint ["value"] := own_mk X G a0 l0 c0 k0 (fun _ _ _ _ _ _ us hl => match us, hl with | [_], _ => rfl)
  have d1 : OwnD K mg "are_gains" s_aregains ["gains"] := own_mk X G a1 l1 c1 k1 (fun _ _ _ _ _ _ us hl => match us, hl with | [_], _ => rfl)
  have d2 : OwnD K mg "are_told" s_aretold ["told", "least"] := own_mk X G a2 l2 c2 k2 (fun _ _ _ _ _ _ us hl => match us, hl with | [_, _], _ => rfl)
  have d3 : OwnD K mg "begin_back" s_beginback ["told", "begin", "gains"] := own_mk X G a3 l3 c3 k3 (fun _ _ _ _ _ _ us hl => match us, hl with | [_, _, _], _ => rfl)
  have d4 : OwnD K mg "is_period" s_isperiod ["tail", "climbs", "period"] := own_mk X G a4 l4 c4 k4 (fun _ _ _ _ _ _ us hl => match us, hl with | [_, _, _], _ => rfl)
  have d5 : OwnD K mg "least_period" s_leastperiod ["tail", "climbs"] := own_mk X G a5 l5 c5 k5 (fun _ _ _ _ _ _ us hl => match us, hl with | [_, _], _ => rfl)
  have d6 : OwnD K mg "settled" s_settled ["told", "gains"] := own_mk X G a6 l6 c6 k6 (fun _ _ _ _ _ _ us hl => match us, hl with | [_, _], _ => rfl)
  have d7 : OwnD K mg "values_to" s_valuesto ["growth", "length"] := own_mk X G a7 l7 c7 k7 (fun _ _ _ _ _ _ us hl => match us, hl with | [_, _], _ => rfl)
  have d8 : OwnD K mg "common_period" s_comper ["one", "other"] := own_mk X G a8 l8 c8 k8 (fun _ _ _ _ _ _ us hl => match us, hl with | [_, _], _ => rfl)
  have d9 : OwnD K mg "common_begin" s_combeg ["one", "other"] := own_mk X G a9 l9 c9 k9 (fun _ _ _ _ _ _ us hl => match us, hl with | [_, _], _ => rfl)
  have d10 : OwnD K mg "gain_over" s_gainover ["growth", "n", "many"] := own_mk X G a10 l10 c10 k10 (fun _ _ _ _ _ _ us hl => match us, hl with | [_, _, _], _ => rfl)
  have d11 : OwnD K mg "summed" s_summed ["one", "other"] := own_mk X G a11 l11 c11 k11 (fun _ _ _ _ _ _ us hl => match us, hl with | [_, _], _ => rfl)
  have d12 : OwnD K mg "row_words" s_roww ["told", "gains"] := own_mk X G a12 l12 c12 k12 (fun _ _ _ _ _ _ us hl => match us, hl with | [_, _], _ => rfl)
  have d13 : OwnD K mg "made" s_made ["told", "gains"] := own_mk X G a13 l13 c13 k13 (fun _ _ _ _ _ _ us hl => match us, hl with | [_, _], _ => rfl)
  have d14 : OwnD K mg "_law_pen" s_lpen ["_law_script"] := own_mk X G a14 l14 c14 k14 (fun _ _ _ _ _ _ us hl => match us, hl with | [_], _ => rfl)
  have d15 : OwnD K mg "_law_draw" s_ldraw ["_law_pen_here", "_law_many"] := own_mk X G a15 l15 c15 k15 (fun _ _ _ _ _ _ us hl => match us, hl with | [_, _], _ => rfl)
  have d16 : OwnD K mg "_law_pick" s_lpick ["_law_pen_here", "_law_some_here"] := own_mk X G a16 l16 c16 k16 (fun _ _ _ _ _ _ us hl => match us, hl with | [_, _], _ => rfl)
  have d17 : OwnD K mg "_law_told" s_ltold ["_law_pen_here"] := own_mk X G a17 l17 c17 k17 (fun _ _ _ _ _ _ us hl => match us, hl with | [_], _ => rfl)
  have d18 : OwnD K mg "_law_at" s_lat ["_law_pair", "_law_n"] := own_mk X G a18 l18 c18 k18 (fun _ _ _ _ _ _ us hl => match us, hl with | [_, _], _ => rfl)
  have d19 : OwnD K mg "_law_is_normal" s_lisnormal ["_law_told_here", "_law_gains"] := own_mk X G a19 l19 c19 k19 (fun _ _ _ _ _ _ us hl => match us, hl with | [_, _], _ => rfl)
  have d20 : OwnD K mg "_law_repeats" s_lrepeats ["_law_pair", "_law_less"] := own_mk X G a20 l20 c20 k20 (fun _ _ _ _ _ _ us hl => match us, hl with | [_, _], _ => rfl)
  have d21 : OwnD K mg "_law_longer" s_llonger ["_law_pen_here", "_law_pair"] := own_mk X G a21 l21 c21 k21 (fun _ _ _ _ _ _ us hl => match us, hl with | [_, _], _ => rfl)
  have d22 : OwnD K mg "_law_bent" s_lbent ["_law_pen_here", "_law_pair"] := own_mk X G a22 l22 c22 k22 (fun _ _ _ _ _ _ us hl => match us, hl with | [_, _], _ => rfl)
  have d23 : OwnD K mg "_law_wide_right" s_lwideright ["_law_pen_here"] := own_mk X G a23 l23 c23 k23 (fun _ _ _ _ _ _ us hl => match us, hl with | [_], _ => rfl)
  have d24 : OwnD K mg "law" s_law ["_law_script"] := own_mk X G a24 l24 c24 k24 (fun _ _ _ _ _ _ us hl => match us, hl with | [_], _ => rfl)
  unfold chk at c
  simp only [Bool.and_eq_true, List.all_eq_true, decide_eq_true_eq] at c
  obtain ⟨c1, c2, c3, c4, c5⟩ := c
  have T : Txt K mg := ⟨fun x hx => PySem.W.mg_none_of X G (c1 x hx), int_of X G c2, int_of X G c3, d0, d1, d2, d3, d4, d5, d6, d7, d8, d9, d10, d11, d12, d13, d14, d15, d16, d17, d18, d19, d20, d21, d22, d23, d24⟩
  have mC := PySem.W.mg_of X G A
  have eC : gC mg = C := adr_of mC
  rw [A] at c5
  replace c5 : (clsB K C && cls2B K C) = true := c5
  rw [Bool.and_eq_true] at c5
  obtain ⟨c5, c6⟩ := c5
  unfold clsB at c5
  unfold cls2B at c6
  simp only [Bool.and_eq_true, decide_eq_true_eq] at c5 c6
  obtain ⟨h1, h2, h3, h4, h5, h6, h7, h8, h9, h10⟩ := c5
  obtain ⟨e0, e1, e2, e3, e4, e5, e6, e7, e8, e9, e10, e11, e12, e13, e14, e15, e16, e17, e18⟩ := c6
  obtain ⟨dd, hd1, hd2⟩ := dflT_of D40
  have MI := md1 (x := "__init__") (q := "Growth.__init__") (st := s_init) l40 c40 k40 hd1
  have b3 : ∀ {fd : FuncData} {ps : List Str}, (∃ ds, Vals (List.drop 1 [V.ref dd]) ds ∧ Binds K fd ps ds) → Binds K fd ps [] := by
    rintro fd ps ⟨ds, hd, hb⟩
    cases hd
    exact hb
  have TG : TxG K mg := by
    refine ⟨T, by rw [eC]; exact mC, by rw [eC]; exact ⟨h1, h2, h3, h4⟩, by rw [eC]; exact h5, by rw [eC]; exact h6, ?_⟩
    rw [eC]
    refine ⟨f40, _, dd, ⟨h7, I40, J40, h8⟩, MI, ?_, ?_, hd2⟩
    · exact b3 (MI.binds1 (ps := ["self", "told", "gains"]) 3 1 (by simp) rfl fun _ _ _ _ _ _ _ us its h1 h2 => match us, its, h1, h2 with | [_, _, _], [_], _, _ => ⟨_, rfl, rfl⟩)
    · exact MI.binds1 (ps := ["self", "told", "gains"]) 2 0 (by simp) rfl fun _ _ _ _ _ _ _ us its h1 h2 => match us, its, h1, h2 with | [_, _], [_], _, _ => ⟨_, rfl, rfl⟩
  have TE : TxE K mg := by
    refine ⟨TG, by rw [eC]; exact e0, e1, e2, by rw [eC]; exact e3, by rw [eC]; exact e4, fun t ht => ?_, by rw [eC]; exact e8, by rw [eC]; exact e9, fun t ht => ?_, by rw [eC]; exact ⟨e13, e14, e15, e16, e17⟩, by rw [eC]; exact e18, ?_, ?_⟩
    all_goals rw [eC]
    · simp only [List.mem_cons, List.not_mem_nil, or_false] at ht
      rcases ht with rfl | rfl | rfl
      · exact e5
      · exact e6
      · exact e7
    · simp only [List.mem_cons, List.not_mem_nil, or_false] at ht
      rcases ht with rfl | rfl | rfl
      · exact e10
      · exact e11
      · exact e12
    · exact ⟨f50, _, I50, J50, md0 (x := "__eq__") (q := "Growth.__eq__") (st := s_eq) l50 c50 k50, (md0 (x := "__eq__") (q := "Growth.__eq__") (st := s_eq) l50 c50 k50).bindsN fun _ _ _ _ _ _ us hl => match us, hl with | [_, _], _ => rfl⟩
    · exact ⟨p41, f41, _, prop_mk P41 R41 S41 W41, md0 (x := "period") (q := "Growth.period") (st := s_period) l41 c41 k41, (md0 (x := "period") (q := "Growth.period") (st := s_period) l41 c41 k41).bindsN fun _ _ _ _ _ _ us hl => match us, hl with | [_], _ => rfl⟩
  have TM : TxM K mg := by
    refine ⟨TE, PySem.W.mg_of X G c4, ?_, ?_, ?_, ?_⟩
    all_goals rw [eC]
    · exact ⟨f51, _, I51, J51, md0 (x := "__add__") (q := "Growth.__add__") (st := s_add) l51 c51 k51, (md0 (x := "__add__") (q := "Growth.__add__") (st := s_add) l51 c51 k51).bindsN fun _ _ _ _ _ _ us hl => match us, hl with | [_, _], _ => rfl⟩
    · exact ⟨f52, _, I52, J52, md0 (x := "__mul__") (q := "Growth.__mul__") (st := s_mul) l52 c52 k52, (md0 (x := "__mul__") (q := "Growth.__mul__") (st := s_mul) l52 c52 k52).bindsN fun _ _ _ _ _ _ us hl => match us, hl with | [_, _], _ => rfl⟩
    · exact ⟨_, Iradd⟩
    · exact ⟨_, Irmul⟩
  have TS : TxS K mg := by
    refine ⟨TE, ?_⟩
    rw [eC]
    exact ⟨f53, _, I53, J53, md0 (x := "__str__") (q := "Growth.__str__") (st := s_str) l53 c53 k53, (md0 (x := "__str__") (q := "Growth.__str__") (st := s_str) l53 c53 k53).bindsN fun _ _ _ _ _ _ us hl => match us, hl with | [_], _ => rfl⟩
  have F := fun_mk (st := s_law) l24 c24 k24
  obtain rfl : f24 = fa := Value.ref.inj (Option.some.inj ((PySem.W.mg_of X G a24).symm.trans hmg))
  exact ⟨_, fun s v => .of_eq rfl, fun base _ _ => law_g TM TS F⟩
end KG
open PySem PySem.W PyProof.Rows L2 in
set_option maxRecDepth 100000 in
set_option maxHeartbeats 0 in
theorem PySem.Challenge.cw_headgap_k04_normal_forms_holds : PySem.Challenge.rw_headgap_k04_normal_forms.Holds := by
  w_on; o_law; k_head; (case hw => w_witness2)
  k_fill
  refine L2.walk_ofG (n := 63) (k := 14) (x := "_law_script") (sp := KG.spLaw)
    (l := PySem.Challenge.rw_headgap_k04_normal_forms) rfl (by decide) rfl ⟨rfl, by decide, by decide⟩ (fun w h Y => PySem.W.kIn_of Y) ?F ?S
  case F =>
    intro w mg fa h KX G hmg
    refine' KG.fin_mk KX G hmg ?c ?a0 ?l0 ?c0 ?k0 ?a1 ?l1 ?c1 ?k1 ?a2 ?l2 ?c2 ?k2 ?a3 ?l3 ?c3 ?k3 ?a4 ?l4 ?c4 ?k4 ?a5 ?l5 ?c5 ?k5 ?a6 ?l6 ?c6 ?k6 ?a7 ?l7 ?c7 ?k7 ?a8 ?l8 ?c8 ?k8 ?a9 ?l9 ?c9 ?k9 ?a10 ?l10 ?c10 ?k10 ?a11 ?l11 ?c11 ?k11 ?a12 ?l12 ?c12 ?k12 ?a13 ?l13 ?c13 ?k13 ?a14 ?l14 ?c14 ?k14 ?a15 ?l15 ?c15 ?k15 ?a16 ?l16 ?c16 ?k16 ?a17 ?l17 ?c17 ?k17 ?a18 ?l18 ?c18 ?k18 ?a19 ?l19 ?c19 ?k19 ?a20 ?l20 ?c20 ?k20 ?a21 ?l21 ?c21 ?k21 ?a22 ?l22 ?c22 ?k22 ?a23 ?l23 ?c23 ?k23 ?a24 ?l24 ?c24 ?k24 ?A ?I40 ?J40 ?l40 ?c40 ?k40 ?D40 ?P41 ?R41 ?S41 ?W41 ?l41 ?c41 ?k41 ?I50 ?J50 ?l50 ?c50 ?k50 ?I51 ?J51 ?l51 ?c51 ?k51 ?I52 ?J52 ?l52 ?c52 ?k52 ?I53 ?J53 ?l53 ?c53 ?k53 ?Iradd ?Irmul
    (case c => kernel_rfl)
    (case a0 => k_is)
    (case l0 => k_is)
    (case c0 => k_is)
    (case k0 => k_is)
    (case a1 => k_is)
    (case l1 => k_is)
    (case c1 => k_is)
    (case k1 => k_is)
    (case a2 => k_is)
    (case l2 => k_is)
    (case c2 => k_is)
    (case k2 => k_is)
    (case a3 => k_is)
    (case l3 => k_is)
    (case c3 => k_is)
    (case k3 => k_is)
    (case a4 => k_is)
    (case l4 => k_is)
    (case c4 => k_is)
    (case k4 => k_is)
    (case a5 => k_is)
    (case l5 => k_is)
    (case c5 => k_is)
    (case k5 => k_is)
    (case a6 => k_is)
    (case l6 => k_is)
    (case c6 => k_is)
    (case k6 => k_is)
    (case a7 => k_is)
    (case l7 => k_is)
    (case c7 => k_is)
    (case k7 => k_is)
    (case a8 => k_is)
    (case l8 => k_is)
    (case c8 => k_is)
    (case k8 => k_is)
    (case a9 => k_is)
    (case l9 => k_is)
    (case c9 => k_is)
    (case k9 => k_is)
    (case a10 => k_is)
    (case l10 => k_is)
    (case c10 => k_is)
    (case k10 => k_is)
    (case a11 => k_is)
    (case l11 => k_is)
    (case c11 => k_is)
    (case k11 => k_is)
    (case a12 => k_is)
    (case l12 => k_is)
    (case c12 => k_is)
    (case k12 => k_is)
    (case a13 => k_is)
    (case l13 => k_is)
    (case c13 => k_is)
    (case k13 => k_is)
    (case a14 => k_is)
    (case l14 => k_is)
    (case c14 => k_is)
    (case k14 => k_is)
    (case a15 => k_is)
    (case l15 => k_is)
    (case c15 => k_is)
    (case k15 => k_is)
    (case a16 => k_is)
    (case l16 => k_is)
    (case c16 => k_is)
    (case k16 => k_is)
    (case a17 => k_is)
    (case l17 => k_is)
    (case c17 => k_is)
    (case k17 => k_is)
    (case a18 => k_is)
    (case l18 => k_is)
    (case c18 => k_is)
    (case k18 => k_is)
    (case a19 => k_is)
    (case l19 => k_is)
    (case c19 => k_is)
    (case k19 => k_is)
    (case a20 => k_is)
    (case l20 => k_is)
    (case c20 => k_is)
    (case k20 => k_is)
    (case a21 => k_is)
    (case l21 => k_is)
    (case c21 => k_is)
    (case k21 => k_is)
    (case a22 => k_is)
    (case l22 => k_is)
    (case c22 => k_is)
    (case k22 => k_is)
    (case a23 => k_is)
    (case l23 => k_is)
    (case c23 => k_is)
    (case k23 => k_is)
    (case a24 => k_is)
    (case l24 => k_is)
    (case c24 => k_is)
    (case k24 => k_is)
    (case A => k_is)
    (case I40 => k_is)
    (case J40 => k_is)
    (case l40 => k_is)
    (case c40 => k_is)
    (case k40 => k_is)
    (case D40 => kernel_rfl)
    (case P41 => k_is)
    (case R41 => k_is)
    (case S41 => k_is)
    (case W41 => k_is)
    (case l41 => k_is)
    (case c41 => k_is)
    (case k41 => k_is)
    (case I50 => k_is)
    (case J50 => k_is)
    (case l50 => k_is)
    (case c50 => k_is)
    (case k50 => k_is)
    (case I51 => k_is)
    (case J51 => k_is)
    (case l51 => k_is)
    (case c51 => k_is)
    (case k51 => k_is)
    (case I52 => k_is)
    (case J52 => k_is)
    (case l52 => k_is)
    (case c52 => k_is)
    (case k52 => k_is)
    (case I53 => k_is)
    (case J53 => k_is)
    (case l53 => k_is)
    (case c53 => k_is)
    (case k53 => k_is)
    (case Iradd => k_is)
    (case Irmul => k_is)
  case S => exact fun K H a ns hl _ hS => ⟨a, ns, rfl, hS, hl, fun _ => rfl⟩
#print axioms PySem.Challenge.cw_headgap_k04_normal_forms_holds
