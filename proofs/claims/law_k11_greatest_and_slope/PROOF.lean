import PyProof.Rows.All
import Wide.All
import OpenK.AllK
import Wide.FinOn
import HandS.ExcInit
import HandS.Words
import HandS.List
import KE.KExcIs
import PyProof.ReprRoads
import HandS.Ends
import HandS.ExcValue
import HandS.IsInst
import HandS.Property
import HandS.ClsMeth
import HandS.Gcd
import HandS.ForMost
import KE.DataMinMax
import HandS.SortKw
import HandS.Defaults
import KE.GoesMore
import HandS.Zip
import HandS.Walk
import HandS.Style
import PySem.Challenge.RW_headgap_k11_greatest_and_slope
import KE.KEqDeep
set_option Elab.async false
set_option linter.all false
set_option maxRecDepth 100000
set_option maxHeartbeats 4000000
namespace PySem
end PySem
namespace L2
open PySem PySem.Spec PyProof.Rows
end L2
namespace L2
open PySem PySem.Spec PyProof.Rows
end L2
namespace L2
open PySem PySem.Spec PyProof.Rows
/-- as FnOk, for callers that have no repr under way -/
structure FnG (P : Program) (w : World) (K : PySem.W.Frag) (mg : Str → Option Value) (base : Heap) (CX : CXT)
    (k : Nat) (f : Addr) (fd : FuncData) (ps : List Str) (sp : Sp) : Prop where
  len : ∀ vs H Q E, sp vs H Q E → vs.length = ps.length
  run : ∀ (A : Around) (outer : List Env) (s : Shared) (H : Hp) (args : Args) (us : List Value) (vs : List V)
    (Q : VK) (E : XK), A.guards = some [] → Room k A → Env0 P w K mg base A outer s H →
    BindsTo s fd args (ps.zip us) → Vals vs us → sp vs H Q E →
    codeAny (model P w) A (.call (.ref f) args) (CR CX outer P w H s Q E) s
section
variable {P : Program} {w : World} {K : PySem.W.Frag} {mg : Str → Option Value} {base : Heap} {CX : CXT} {k : Nat}
  {f : Addr} {fd : FuncData} {ps : List Str} {sp : Sp}
theorem FnOk.g (F : FnOk P w K mg base CX k f fd ps sp) : FnG P w K mg base CX k f fd ps sp :=
  ⟨F.len, fun A outer s H args us vs Q E _ hr he hb hv hs => F.run A outer s H args us vs Q E hr he hb hv hs⟩
theorem FnG.mono {j : Nat} (F : FnG P w K mg base CX j f fd ps sp) (h : j ≤ k) : FnG P w K mg base CX k f fd ps sp :=
  ⟨F.len, fun A outer s H args us vs Q E hg hr => F.run A outer s H args us vs Q E hg (hr.mono h)⟩
/-- the rule for a def, guards known -/
theorem Fun.okG {x qual : Str} {st : Stmt} {N : List Str} (F : Fun K x qual st f fd) (S : FnScope N ps (defScope st))
    (len : ∀ vs H Q E, sp vs H Q E → vs.length = ps.length)
    (hbody : ∀ (cdv : Value) (A : Around) (outer : List Env) (s : Shared) (H : Hp) (vs : List V) (Q : VK) (E : XK),
      (A.deeper (envOfC qual (defScope st) s.heap.objs.size f cdv)).guards = some [] →
      Room k (A.deeper (envOfC qual (defScope st) s.heap.objs.size f cdv)) → sp vs H Q E →
      ∃ t, PSs (cxOf CX0 P w K mg base N qual (defScope st) f cdv A outer s H E).nox (defBody st) t ∧
        t { nx := fun _ H' => Q .non H', rt := Q } (start N vs) H) :
    FnG P w K mg base CX0 (k + 1) f fd ps sp := by
  obtain ⟨oc, od, kV, doc, pm, an, cdv, ct, osl, rfl, lk, hcd⟩ := F.ex
  refine ⟨len, fun A outer s H args us vs Q E hg hr e0 hb r hsp => ?_⟩
  have hl := len _ _ _ _ hsp
  have KX : K.In s.heap := e0.mod.kin.keeps fun b o e => (e0.bs b o e).1
  have lim : s.heap.NoLimit := e0.mod.nolimit.keeps fun b o e => (e0.bs b o e).1
  have kinds : ∀ y ∈ ps.zip us, (defScope st).names.lookup y.1 = some .local ∨
      ((defScope st).names.lookup y.1 = some .cell ∧
        ((cellsFrom (s.heap.objs.size + 1) (defScope st).names []).lookup y.1).isSome = true) := by
    rintro ⟨n, v⟩ hy
    rcases S.par n (List.of_mem_zip hy).1 with q | q
    · exact .inl q
    · exact .inr ⟨q, PySem.W.cellsFrom_some _ _ _ (.inl q)⟩
  refine codeAny_call_function hr.depth (KX _ _ lk) rfl S.co S.gen rfl (PySem.W.codeRec_of KX hcd) (hb _ _ _ _ ?_)
  refine wpAny_newFunctionEnv_cells S.kind kinds fun env he s1 x => ?_
  subst he
  refine ⟨lim.keeps x.toInCall.keep, codeAny_func ?_⟩
  have hg' : (A.deeper (envOfC qual (defScope st) s.heap.objs.size f cdv)).guards = some [] := by
    first
      | exact hg
      | simpa [Around.deeper] using hg
  obtain ⟨t, ht0, hq⟩ := hbody cdv A outer s H vs Q E hg' (hr.deeper _) hsp
  have ht := ht0.nox
  have I : Inv (cxOf CX0 P w K mg base N qual (defScope st) f cdv A outer s H E) [] (start N vs) H s1 :=
    inv_start S hr.hd e0 hl r x
  refine wpAny_mono (ht.run [] s1 (start N vs) H _ I hq) (fun fl s' hs => ?_) fun e s' hs => hs
  have fin : ∀ {σ' : St} {H' : Hp} {v : V} {u : Value},
      Inv (cxOf CX0 P w K mg base N qual (defScope st) f cdv A outer s H E) [] σ' H' s' → RelV v u → Q v H' →
      CE outer P w H s Q u s' := fun J rv q => ⟨_, _, J.os, J.bare, J.base, J.hok, rv, q⟩
  cases fl with
  | ret u =>
    obtain ⟨v, σ', H', J, rv, q⟩ := hs
    exact fin J rv q
  | next =>
    obtain ⟨σ', H', J, q⟩ := hs
    exact fin (v := V.non) (u := Value.none) J rfl q
  | brk =>
    obtain ⟨_, _, _, q⟩ := hs
    exact False.elim q
  | cont =>
    obtain ⟨_, _, _, q⟩ := hs
    exact False.elim q
end
section
variable {X : Cx} {CX : CXT} {k : Nat} {f : Addr} {fd : FuncData} {ps : List Str} {sp : Sp} {dvs : List V}
  {ds : List Value} {E : XK} {x : Str} {p pos : Pos} {e : Expr} {es : List Expr} {t : TA}
theorem run_fnG {pins : List (Addr × Obj)} {σ : St} {H : Hp} {s : Shared} {Q : VK} {us : List Value} {vs : List V}
    (F : FnG X.prog X.w X.K X.mg X.base CX k f fd ps sp) (hA : X.A.guards = some []) (hr : Room k X.A)
    (hb : Binds X.K fd ps ds) (hd : Vals dvs ds) (hx : Passes CX X E) (I : Inv X pins σ H s) (r : Vals vs us)
    (h : sp (vs ++ dvs) H Q E) : wpAny (model X.prog X.w) X.A (call (.ref f) us) (EP X pins σ Q) X.xe s := by
  have r2 : Vals (vs ++ dvs) (us ++ ds) := r.append hd
  have hl : (us ++ ds).length = ps.length := by
    rw [← r2.length]
    exact F.len _ _ _ _ h
  refine wpAny_call (codeAny_mono (F.run X.A X.stack s H ⟨us, []⟩ (us ++ ds) (vs ++ dvs) Q E hA hr I.env0
    (hb s us I.kIn hl) r2 h) fun rr s' z => ?_)
  cases rr with
  | error e => exact hx pins σ H s e s' I z
  | ok fl =>
    cases fl with
    | ret u => exact I.after z
    | next => exact False.elim z
    | brk => exact False.elim z
    | cont => exact False.elim z
theorem pe_callG (F : FnG X.prog X.w X.K X.mg X.base CX k f fd ps sp) (hA : X.A.guards = some []) (hr : Room k X.A)
    (hg : Gl X x) (hm : X.mg x = some (.ref f)) (hk : PySem.W.keepIn X.K (.ref f) = true) (hb : Binds X.K fd ps ds)
    (hd : Vals dvs ds) (hx : Passes CX X E) (ha : PA X (e :: es) t)
    (hdb : (x == ("__debug__" : Str)) = false := by decide)
    (he : starEach (e :: es) X.env = (false, eval e X.env) :: starEach es X.env := by rfl)
    (hpl : (backTo pos (starEach es X.env)).any (·.1) = false := by rfl) :
    PE X (.Call (.Name x p) (e :: es) [] pos) (tCall sp dvs E t) := by
  refine ⟨fun pins s σ H Q I h => ?_⟩
  refine wpAny_Call_Name_kw (ld_glob I hg hm ?_ hdb)
  refine PySem.W.callWith_K (h₀ := X.base) I.ok.mod.kin hk
    (thn (ha.run pos pins s σ H _ I h) fun us s1 ⟨vs, H1, I1, r, q⟩ => ⟨I1.kIn, ?_⟩) he hpl
  exact run_fnG F hA hr hb hd hx I1 r q
end
/-- the law's call, from such a promise -/
theorem law_callG {P : Program} {w : World} {K : PySem.W.Frag} {mg mb : Str → Option Value} {k : Nat} {fa a : Addr}
    {fd : FuncData} {x : Str} {sp : Sp} {s1 : Shared} {vs : List Value} {ns : List Int}
    (KX : K.In s1.heap) (hns : s1.heap.Ns mainGlobals mg) (hb : s1.heap.Ns builtinsNs mb)
    (hbb : ∀ y : Str, y ≠ "__name__" → mb y = bootBuiltins y) (hlim : s1.heap.NoLimit) (hg : s1.gens = #[])
    (ha : s1.heap.get? a = some { cls := .type "list", data := .seq vs.toArray }) (hi : IntsAre vs ns)
    (hl : ns.length ≤ sizeLine) (hr : Room k callerA)
    (F : ∀ base : Heap, K.In base → base.Ns mainGlobals mg → FnG P w K mg base CX0 k fa fd [x] sp)
    (hbind : ∀ (s : Shared) (u : Value), BindsTo s fd ⟨[u], []⟩ [(x, u)])
    (hsp : ∀ H : Hp, Only H → SqL K H a (ns.map V.int) → sp [.ref a] H (fun v _ => v = .bl true) E0) :
    codeAny (model P w) callerA (.call (.ref fa) ⟨[.ref a], []⟩)
      (fun r s' => r = .ok (.ret (.bool true)) ∧ OldK s1.heap s'.heap ∧ s'.os = s1.os ∧ AllBare s'.gens) s1 := by
  have rv := vals_ints hi
  have lenV := hi.length
  have core : ∀ H : Hp, Only H → SqL K H a (ns.map V.int) → HOk P w H s1.heap → (∀ b, H b ≠ none → b = a) →
      (H a ≠ none → K.lookup a = none) → codeAny (model P w) callerA (.call (.ref fa) ⟨[.ref a], []⟩)
        (fun r s' => r = .ok (.ret (.bool true)) ∧ OldK s1.heap s'.heap ∧ s'.os = s1.os ∧ AllBare s'.gens) s1 := by
    intro H hO hS hok hA hK
    have atA : ∀ {b : Addr} {u : HO}, H b = some u → b = a := fun {b u} q => hA b (by rw [q]; simp)
    have noA : ∀ {b : Addr} {o : Obj} {es : Array DictEntry} {ep : Nat}, s1.heap.get? b = some o →
        o.data = .dict es ep → H b = none := by
      intro b o es ep e d
      cases q : H b with
      | none => rfl
      | some u =>
        obtain rfl := atA q
        rw [ha] at e
        cases e
        have d' : Data.seq vs.toArray _ = Data.dict es ep := d
        cases d'
    have nsK : ∀ {b : Addr} {m : Str → Option Value}, s1.heap.Ns b m → (hidT s1.heap H).Ns b m := by
      rintro b m ⟨o, es, ep, e, d, r⟩
      exact ⟨o, es, ep, hidT_get e (noA e d), d, r⟩
    have hKb : K.In (hidT s1.heap H) := by
      intro b o e
      refine hidT_get (KX b o e) ?_
      cases q : H b with
      | none => rfl
      | some u =>
        obtain rfl := atA q
        rw [hK (by rw [q]; simp)] at e
        cases e
    have lim' : (hidT s1.heap H).NoLimit := by
      obtain ⟨mc, h1, h2⟩ := hlim
      exact ⟨mc, nsK h1, h2⟩
    have hM : Mod K mg (hidT s1.heap H) := ⟨hKb, nsK hns, ⟨mb, nsK hb, hbb⟩, lim'⟩
    have e0 : Env0 P w K mg (hidT s1.heap H) callerA [] s1 H :=
      ⟨rfl, hM, fun b o e => of_hidT e, Nat.le_of_eq (hidT_size _ _), trivial,
        fun b hb => absurd (show b ∈ ([] : List Addr) from hb) (by simp), hok, .of_eq hg⟩
    refine codeAny_mono ((F _ hKb (nsK hns)).run callerA [] s1 H ⟨[.ref a], []⟩ [.ref a] [.ref a] _ _ rfl hr e0
      (hbind s1 (.ref a)) (.cons rfl .nil) (hsp H hO hS)) fun r s' h => ?_
    cases r with
    | error e => exact h.elim
    | ok fl =>
      cases fl with
      | next => exact False.elim h
      | brk => exact False.elim h
      | cont => exact False.elim h
      | ret u =>
        obtain ⟨v, H', os, bare, un, hok', r', q⟩ := h
        have q' : v = .bl true := q
        subst q'
        obtain rfl : u = Value.bool true := r'
        refine ⟨rfl, OldK.of_keep fun b o e => ?_, os, bare⟩
        have nil : b ∉ frs [] := fun z => absurd (show b ∈ ([] : List Addr) from z) (by simp)
        cases q : H b with
        | none => exact un.keep b o e q nil (by simp)
        | some u =>
          rcases hO b with z | ⟨ob, xs, z⟩
          · rw [q] at z
            cases z
          · have z2 := un.frzs b ob _ z
            obtain ⟨e1, _⟩ := hok b _ z
            obtain ⟨e2, _⟩ := hok' b _ z2
            rw [e] at e1
            cases e1
            exact e2
  cases hk : K.lookup a with
  | some o =>
    have e := KX a o hk
    rw [ha] at e
    cases e
    have ok0 : HOk P w (fun _ => none) s1.heap := fun b u z => by
      have z' : (none : Option HO) = some u := z
      cases z'
    refine core (fun _ => none) (fun _ => .inl rfl) (.inr ⟨_, vs.toArray, _, hk, rfl, rfl, rfl, ?_, ?_⟩) ok0
      (fun b z => absurd rfl z) fun z => absurd rfl z
    · rw [List.size_toArray, lenV]
      exact hl
    · simpa using rv
  | none =>
    let o1 : Obj := { cls := .type "list", data := .seq vs.toArray }
    refine core (fun b => if b = a then some (.frz o1 (.lst (ns.map V.int))) else none) (fun b => ?_)
      (.inl (.inr ⟨o1, if_pos rfl⟩)) (fun b u z => ?_) (fun b z => ?_) fun _ => hk
    · by_cases hb : b = a
      · exact .inr ⟨_, _, if_pos hb⟩
      · exact .inl (if_neg hb)
    · by_cases hb : b = a
      · have z' := (if_pos hb).symm.trans z
        cases z'
        subst hb
        exact ⟨ha, by rw [List.length_map]; exact hl, vs, _, rv, ha⟩
      · have z' := (if_neg hb).symm.trans z
        cases z'
    · by_cases hb : b = a
      · exact hb
      · exact absurd (if_neg hb) z
theorem walk_ofG {l : PySem.W.OpenLaw} {n k : Nat} {q : Program} {loose : List Str}
    {XP : (Str → Option Value) → Heap → Prop} {YP : World → Heap → Prop} {d : DefRec} {K : Params → PySem.W.Frag}
    {sp : PySem.W.Frag → Sp} {x : Str} (hn : l.most = some n) (hn2 : n ≤ sizeLine) (hdf : d.params.defaults = [])
    (hr : Room k callerA) (hY : ∀ (w : World) (h : Heap), YP w h → (K w.params).In h)
    (F : ∀ (w : World) (mg : Str → Option Value) (fa : Addr) (h : Heap), (K w.params).In h → h.Ns mainGlobals mg →
      mg d.name = some (.ref fa) → ∃ fd : FuncData, (∀ (s : Shared) (u : Value), BindsTo s fd ⟨[u], []⟩ [(x, u)]) ∧
        ∀ base : Heap, (K w.params).In base → base.Ns mainGlobals mg →
          FnG l.prog w (K w.params) mg base CX0 k fa fd [x] (sp (K w.params)))
    (hsp : ∀ (K : PySem.W.Frag) (H : Hp) (a : Addr) (ns : List Int), ns.length ≤ n → Only H →
      SqL K H a (ns.map V.int) → sp K [.ref a] H (fun v _ => v = .bl true) E0) :
    PySem.W.WalkO q loose XP YP l.row.toRowW d [] (fun f vs => PySem.call f vs) := by
  refine Att.attach_call hn hdf fun w s0 s1 mg mb fa o pm cd doc a vs ns G Y ho hd hcd hmg hobj hints hlen hg => ?_
  have KX := hY w _ Y
  obtain ⟨fd, hb, hF⟩ := F w mg fa _ KX G.T.g hmg
  exact law_callG KX G.T.g G.T.b G.T.builtins G.T.nolimit hg hobj hints (Nat.le_trans hlen hn2) hr hF hb
    fun H hO hS => hsp (K w.params) H a ns hlen hO hS
end L2
namespace L2
open PySem PySem.Spec PyProof.Rows
/-- the address of what a module's name holds -/
def adr (mg : Str → Option Value) (x : Str) : Addr := match mg x with
  | some (.ref a) => a
  | _ => 0
theorem adr_of {mg : Str → Option Value} {x : Str} {a : Addr} (h : mg x = some (.ref a)) : adr mg x = a := by
  unfold adr
  rw [h]
/-- a def of the top, by its name -/
def OwnD (K : PySem.W.Frag) (mg : Str → Option Value) (x : Str) (st : Stmt) (ps : List Str) : Prop :=
  ∃ f fd, mg x = some (.ref f) ∧ Fun K x x st f fd ∧ Binds K fd ps []
/-- what a def of the top keeps -/
def Kp (P : Program) (w : World) (K : PySem.W.Frag) (mg : Str → Option Value) (base : Heap) (k : Nat) (x : Str)
    (ps : List Str) (sp : Sp) : Prop :=
  ∃ f fd, mg x = some (.ref f) ∧ PySem.W.keepIn K (.ref f) = true ∧ Binds K fd ps [] ∧
    FnG P w K mg base CX0 k f fd ps sp
section
variable {P : Program} {w : World} {K : PySem.W.Frag} {mg : Str → Option Value} {base : Heap}
theorem OwnD.ok {x : Str} {st : Stmt} {N ps : List Str} {k : Nat} {sp : Sp} (O : OwnD K mg x st ps)
    (S : FnScope N ps (defScope st)) (len : ∀ vs H Q E, sp vs H Q E → vs.length = ps.length)
    (hbody : ∀ (f : Addr) (cdv : Value) (A : Around) (outer : List Env) (s : Shared) (H : Hp) (vs : List V) (Q : VK)
      (E : XK), (A.deeper (envOfC x (defScope st) s.heap.objs.size f cdv)).guards = some [] →
      Room k (A.deeper (envOfC x (defScope st) s.heap.objs.size f cdv)) → sp vs H Q E →
      ∃ t, PSs (cxOf CX0 P w K mg base N x (defScope st) f cdv A outer s H E).nox (defBody st) t ∧
        t { nx := fun _ H' => Q .non H', rt := Q } (start N vs) H) :
    Kp P w K mg base (k + 1) x ps sp := by
  obtain ⟨f, fd, hm, F, b⟩ := O
  exact ⟨f, fd, hm, F.kp, b, F.okG S len fun cdv A outer s H vs Q E hg hr h => hbody f cdv A outer s H vs Q E hg hr h⟩
theorem own_mk {h : Heap} {x : Str} {st : Stmt} {ps : List Str} {f : Addr} {od an : Option Addr}
    {sl : Array (Option Value)} {oc kV dc pm cd ct : Value} (X : K.In h) (G : h.Ns mainGlobals mg)
    (a : PySem.W.nsIn K mainGlobals x = some (some (.ref f)))
    (l : K.lookup f = some ⟨oc, od, .func (PySem.W.fnOf x x (defArgs st) (defBody st) (defScope st) .none kV dc pm an cd ct), sl⟩)
    (c : PySem.W.codeIn K cd x = true) (k : PySem.W.keepIn K (.ref f) = true)
    (b : ∀ (kV doc pm : Value) (an : Option Addr) (cdv ct : Value) (us : List Value), us.length = ps.length →
      bindArgs (PySem.W.fnOf x x (defArgs st) (defBody st) (defScope st) .none kV doc pm an cdv ct) ⟨us, []⟩ =
        pure (ps.zip us)) : OwnD K mg x st ps :=
  have F := fun_mk (st := st) l c k
  ⟨f, _, PySem.W.mg_of X G a, F, F.binds b⟩
end
section
variable {X : Cx} {k j : Nat} {ps : List Str} {sp : Sp} {x : Str} {p pos : Pos} {e : Expr} {es : List Expr} {t : TA}
/-- f(e, ..) by what f keeps -/
theorem pe_kp (F : Kp X.prog X.w X.K X.mg X.base k x ps sp) (hA : X.A.guards = some []) (hr : Room j X.A)
    (hg : Gl X x) (ha : PA X (e :: es) t) (hj : k ≤ j := by decide)
    (hdb : (x == ("__debug__" : Str)) = false := by decide)
    (he : starEach (e :: es) X.env = (false, eval e X.env) :: starEach es X.env := by rfl)
    (hpl : (backTo pos (starEach es X.env)).any (·.1) = false := by rfl)
    (hx : Passes CX0 X E0 := by exact pass0) :
    PE X (.Call (.Name x p) (e :: es) [] pos) (tCall sp [] E0 t) := by
  obtain ⟨f, fd, hm, hk, hb, G⟩ := F
  exact pe_callG G hA (hr.mono hj) hg hm hk hb .nil hx ha hdb he hpl
end
end L2
namespace L2
open PySem PySem.Spec PyProof.Rows
section
variable {X : Cx}
theorem fmod_bd {i j : Int} (h : 0 < j) : 0 ≤ i.fmod j ∧ i.fmod j < j := by
  rw [Int.fmod_eq_emod_of_nonneg _ (by omega)]
  exact ⟨Int.emod_nonneg _ (by omega), Int.emod_lt_of_pos _ h⟩
/-- a % b, some number below b -/
def rModW : R2 := fun x y H Q => ∃ i j, x = .int i ∧ y = .int j ∧ 0 < j ∧ ∀ r, 0 ≤ r → r < j → Q (.int r) H
theorem op_modW : OpR X (binaryOp .Mod) rModW := by
  intro pins s σ H x y v u Q I rx ry h
  obtain ⟨i, j, ex, ey, hj, h⟩ := h
  exact op_modN pins s σ H x y v u Q I rx ry ⟨i, j, ex, ey, by omega, h _ (fmod_bd hj).1 (fmod_bd hj).2⟩
/-- a // b, the quotient with its rest -/
def rDivW : R2 := fun x y H Q => ∃ i j, x = .int i ∧ y = .int j ∧ 0 < j ∧ j < 1073741824 ∧
  ∀ q r, i = j * q + r → 0 ≤ r → r < j → Q (.int q) H
theorem op_divW : OpR X (binaryOp .FloorDiv) rDivW := by
  intro pins s σ H x y v u Q I rx ry h
  obtain ⟨i, j, ex, ey, hj, h2, h⟩ := h
  have b := fmod_bd (i := i) hj
  refine op_fdivN pins s σ H x y v u Q I rx ry ⟨i, j, ex, ey, ⟨by omega, by omega⟩, h _ _ ?_ b.1 b.2⟩
  have e := Int.fmod_add_mul_fdiv i j
  omega
/-- a ** b, some number -/
def rPowW : R2 := fun x y H Q => ∃ i j, x = .int i ∧ y = .int j ∧ 0 ≤ j ∧ j ≤ 1000000 ∧ i.natAbs < 2 ^ 64 ∧
  ∀ z, Q (.int z) H
theorem op_powW : OpR X (binaryOp .Pow) rPowW := by
  intro pins s σ H x y v u Q I rx ry h
  obtain ⟨i, j, ex, ey, h1, h2, h3, h⟩ := h
  exact op_pow pins s σ H x y v u Q I rx ry ⟨i, j, ex, ey, ⟨h1, h2, h3⟩, h _⟩
/-- a * b, as a letter with its equation -/
def rMulW : R2 := fun x y H Q => ∃ i j, x = .int i ∧ y = .int j ∧ ((-(2 ^ 64) < i ∧ i < 2 ^ 64) ∨ (-(2 ^ 64) < j ∧ j < 2 ^ 64)) ∧
  ∀ z, z = i * j → Q (.int z) H
theorem op_mulW' : OpR X (binaryOp .Mult) rMulW := by
  intro pins s σ H x y v u Q I rx ry h
  obtain ⟨i, j, ex, ey, h1, h⟩ := h
  exact op_mul pins s σ H x y v u Q I rx ry ⟨i, j, ex, ey, h1, h _ rfl⟩
/-- int(n), n an int -/
theorem call_intI : CallR X (.type "int") (fun xs H Q => ∃ i, xs = [.int i] ∧ Q (.int i) H) := by
  intro pins s σ H xs us Q I r h
  obtain ⟨i, e, h⟩ := h
  exact call_int1 pins s σ H xs us Q I r (.inl ⟨i, e, h⟩)
/-- int(b), b a bool: 0 or 1 -/
theorem call_intB : CallR X (.type "int") (fun xs H Q => ∃ b, xs = [.bl b] ∧ ∀ i, 0 ≤ i → i ≤ 1 → Q (.int i) H) := by
  intro pins s σ H xs us Q I r h
  obtain ⟨b, e, h⟩ := h
  refine call_int1 pins s σ H xs us Q I r (.inr ⟨b, e, h _ ?_ ?_⟩)
  · cases b <;> decide
  · cases b <;> decide
end
theorem upd_new {H : Hp} {p q : Addr} {o u : HO} (hn : H p = none) (h : H q = some o) : upd H p u q = some o :=
  (upd_ne (ne_of_none h hn)).trans h
theorem upd_oth {H : Hp} {p q : Addr} {o u : HO} (hn : q ≠ p) (h : H q = some o) : upd H p u q = some o :=
  (upd_ne hn).trans h
theorem sq_new {K : PySem.W.Frag} {H : Hp} {p c : Addr} {u : HO} {xs : List V} (hn : H p = none) (h : SqL K H c xs) :
    SqL K (upd H p u) c xs := by
  rcases h with (h | ⟨o, h⟩) | h
  · exact .inl (.inl (upd_new hn h))
  · exact .inl (.inr ⟨o, upd_new hn h⟩)
  · exact .inr h
theorem Same.new {H : Hp} {p : Addr} {u : HO} (hn : H p = none) : Same H (upd H p u) := fun b o e => upd_new hn e
theorem at_map {ns : List Int} {r : Int} (h0 : 0 ≤ r) (h1 : r < (ns.length : Int)) :
    ∃ x, atI (ns.map V.int) r = some (.int x) := by
  have hl : r.toNat < ns.length := by omega
  refine ⟨ns[r.toNat], ?_⟩
  unfold atI ixN
  rw [List.length_map, if_pos h0, if_pos h1]
  simp [List.getElem?_eq_getElem hl]
theorem at_in {α : Type} {xs : List α} {r : Int} (h0 : 0 ≤ r) (h1 : r < (xs.length : Int)) :
    ∃ x, atI xs r = some x ∧ x ∈ xs := by
  have hl : r.toNat < xs.length := by omega
  refine ⟨xs[r.toNat], ?_, List.getElem_mem _⟩
  unfold atI ixN
  rw [if_pos h0, if_pos h1]
  simp [List.getElem?_eq_getElem hl]
/-- data of a list of ints -/
theorem dp_ints {K : PySem.W.Frag} {H : Hp} : ∀ ns : List Int, DpAll K H (ns.map V.int) (ns.map PyData.int)
  | [] => .nil
  | n :: ns => .cons (.int n) (dp_ints ns)
/-- a statement and what follows it, met at a word -/
def tMid (t u : TS) : TS := fun D σ H => ∃ W : St → Hp → Prop, t { D with nx := W } σ H ∧ ∀ σ1 H1, W σ1 H1 → u D σ1 H1
theorem pss_mid {X : Cx} {st : Stmt} {rest : List Stmt} {t u : TS} (a : PS X st t) (b : PSs X rest u) :
    PSs X (st :: rest) (tMid t u) := by
  constructor
  intro pins s σ H D I h
  obtain ⟨W, hw, hu⟩ := h
  refine wpAny_execs_cons (thn (a.run pins s σ H { D with nx := W } I hw) fun f s1 z => ?_)
  cases f with
  | next =>
    obtain ⟨σ1, H1, I1, z⟩ := z
    exact b.run pins s1 σ1 H1 D I1 (hu σ1 H1 z)
  | ret v => exact z
  | brk => exact z
  | cont => exact z
theorem len_lst {K : PySem.W.Frag} {H : Hp} {c : Addr} {xs : List V} (h : H c = some (.lst xs)) :
    LenV K (.ref c) H xs.length := .inl ⟨xs, SqL.of h, rfl⟩
theorem len_tup {K : PySem.W.Frag} {H : Hp} {c : Addr} {xs : List V} (h : H c = some (.tup xs)) :
    LenV K (.ref c) H xs.length := .inr ⟨xs, SqT.of h, rfl⟩
theorem len_sq {K : PySem.W.Frag} {H : Hp} {c : Addr} {xs : List V} (h : SqL K H c xs) :
    LenV K (.ref c) H xs.length := .inl ⟨xs, h, rfl⟩
end L2
namespace L2
open PySem PySem.Spec PyProof.Rows
theorem PE.imp {X : Cx} {e : Expr} {t t' : TE} (h : PE X e t) (k : ∀ σ H Q, t' σ H Q → t σ H Q) : PE X e t' :=
  ⟨fun pins s σ H Q I q => h.run pins s σ H Q I (k σ H Q q)⟩
/-- all but what stands at p is as it was -/
def But (p : Addr) (H H' : Hp) : Prop := ∀ b, b ≠ p → ∀ o, H b = some o → H' b = some o
theorem But.trans {p : Addr} {H H1 H2 : Hp} (a : But p H H1) (b : But p H1 H2) : But p H H2 :=
  fun c hc o e => b c hc o (a c hc o e)
/-- an error object, its fields the last one first -/
def XV (H : Hp) (a C : Addr) (fs : List (Str × V)) : Prop :=
  (fs = [] ∧ H a = some (exo a C none)) ∨ ∃ dx, H a = some (exo a C (some dx)) ∧ H dx = some (exd dx fs)
theorem XV.same {H H' : Hp} {a C : Addr} {fs : List (Str × V)} (h : XV H a C fs) (s : Same H H') : XV H' a C fs := by
  rcases h with ⟨e, h⟩ | ⟨dx, h, g⟩
  · exact .inl ⟨e, s _ _ h⟩
  · exact .inr ⟨dx, s _ _ h, s _ _ g⟩
end L2
namespace L2
open PySem PySem.Spec PyProof.Rows
def kd : Key → PyData
  | .inl i => .int i
  | .inr x => .str x
mutual
/-- what a value is as data; dicts by int and text keys -/
inductive Dq (K : PySem.W.Frag) (H : Hp) : V → PyData → Prop
  | non : Dq K H .non .none
  | bl (b : Bool) : Dq K H (.bl b) (.bool b)
  | int (i : Int) : Dq K H (.int i) (.int i)
  | str (x : Str) : Dq K H (.str x) (.str x)
  | lst {a : Addr} {xs : List V} {ds : List PyData} : SqL K H a xs → DqAll K H xs ds → Dq K H (.ref a) (.list ds)
  | tup {a : Addr} {xs : List V} {ds : List PyData} : SqT K H a xs → DqAll K H xs ds → Dq K H (.ref a) (.tuple ds)
  | dic {a : Addr} {kvs : List (Key × V)} {ds : List (PyData × PyData)} : H a = some (.dK kvs) → DqKv K H kvs ds →
      Dq K H (.ref a) (.dict ds)
inductive DqAll (K : PySem.W.Frag) (H : Hp) : List V → List PyData → Prop
  | nil : DqAll K H [] []
  | cons {v : V} {vs : List V} {d : PyData} {ds : List PyData} : Dq K H v d → DqAll K H vs ds →
      DqAll K H (v :: vs) (d :: ds)
inductive DqKv (K : PySem.W.Frag) (H : Hp) : List (Key × V) → List (PyData × PyData) → Prop
  | nil : DqKv K H [] []
  | cons {k : Key} {v : V} {vs : List (Key × V)} {d : PyData} {ds : List (PyData × PyData)} : Dq K H v d →
      DqKv K H vs ds → DqKv K H ((k, v) :: vs) ((kd k, d) :: ds)
end
section
variable {X : Cx} {pins : List (Addr × Obj)} {σ : St} {H : Hp} {s : Shared}
theorem rk_key {k : Key} {u : Value} (h : keyIs k u = true) (hs : (kd k).showable = true)
    (hz : (kd k).shown.length ≤ sizeLine) :
    Reads s.heap u (kd k) [] ∧ ∀ bs n, ReprK X.prog X.w bs s.heap n u (kd k).shown := by
  rcases keyIs_shape h with ⟨i, t, rfl, rfl⟩ | ⟨x, t, rfl, rfl⟩
  · refine ⟨Reads.int i t, fun bs n => ?_⟩
    simp only [kd, PyData.shown]
    exact .of_is (ReprIs.int t (by simpa [kd, PyData.showable] using hs)) _ _ _
  · refine ⟨Reads.str x t, fun bs n => ?_⟩
    simp only [kd, PyData.shown]
    exact .of_is (ReprIs.str x t (by simpa only [kd, PyData.shown] using hz)) _ _ _
theorem ram_app {h : Heap} {n m : Nat} {as bs : List Addr} (a : ReadAtMost h n as) (b : ReadAtMost h m bs) :
    ReadAtMost h (max n m) (as ++ bs) := by
  intro c hc
  rcases List.mem_append.mp hc with q | q
  · obtain ⟨d, xs, r, l⟩ := a c q
    exact ⟨d, xs, r, Nat.le_trans l (Nat.le_max_left _ _)⟩
  · obtain ⟨d, xs, r, l⟩ := b c q
    exact ⟨d, xs, r, Nat.le_trans l (Nat.le_max_right _ _)⟩
theorem ek_more {P : Program} {w : World} {h : Heap} {as bs : List Addr} {n m : Nat} (hs : ∀ b ∈ as, b ∈ bs) (hn : n ≤ m) :
    ∀ {es : List DictEntry} {ps : List Str}, ReprEntriesK P w as h n es ps → ReprEntriesK P w bs h m es ps
  | _, _, .nil => .nil
  | _, _, .cons a b c => .cons ((a.more hs).level_le hn) ((b.more hs).level_le hn) (ek_more hs hn c)
mutual
theorem Dq.rk (I : Inv X pins σ H s) : ∀ {v : V} {d : PyData}, Dq X.K H v d → ∀ u, RelV v u → d.showable = true →
    d.shown.length ≤ sizeLine → ∃ as bs, Reads s.heap u d as ∧ ReadAtMost s.heap d.depth bs ∧
      ReprK X.prog X.w bs s.heap d.depth u d.shown
  | _, _, .non, u, r, _, _ => by
    cases r
    exact ⟨_, [], Reads.none, fun _ h => (nomatch h), by simp only [PyData.shown]; exact .of_is ReprIs.none _ _ _⟩
  | _, _, .bl b, u, r, _, _ => by
    cases r
    exact ⟨_, [], Reads.bool b, fun _ h => (nomatch h), by simp only [PyData.shown]; exact .of_is (ReprIs.bool b) _ _ _⟩
  | _, _, .int i, u, r, hs, _ => by
    obtain ⟨t, rfl⟩ := r
    exact ⟨_, [], Reads.int i t, fun _ h => (nomatch h), by
      simp only [PyData.shown]
      exact .of_is (ReprIs.int t (by simpa [PyData.showable] using hs)) _ _ _⟩
  | _, _, .str x, u, r, _, hz => by
    obtain ⟨t, rfl⟩ := r
    exact ⟨_, [], Reads.str x t, fun _ h => (nomatch h), by
      simp only [PyData.shown]
      exact .of_is (ReprIs.str x t (by simpa only [PyData.shown] using hz)) _ _ _⟩
  | _, _, .lst (a := a) (ds := ds) hq ha, u, r, hs, hz => by
    cases r
    obtain ⟨its, rv, ⟨o, n, ho, hc, _, hd⟩, _⟩ := I.list hq
    have hz1 : (listText (PyData.shownAll ds)).length ≤ sizeLine := by simpa only [PyData.shown] using hz
    obtain ⟨as, bs, rd, hb, hk⟩ := DqAll.rk I ha its rv (by simpa [PyData.showable] using hs)
      fun t ht => Nat.le_trans (listText_mem_le ht) hz1
    have R : Reads s.heap (.ref a) (.list ds) _ := .list ho hc hd rd
    have nb : a ∉ bs := not_mem_of_deeper R (by simp only [PyData.depth]; omega) hb
    refine ⟨_, a :: bs, R, ReadAtMost.cons R (by simp only [PyData.depth]; omega) hb, ?_⟩
    simp only [PyData.depth, PyData.shown]
    cases its with
    | nil =>
      cases rd
      simp only [PyData.shownAll, listText_nil]
      exact ReprK.listEmpty ho hc hd
    | cons y l => exact ReprK.list ho hc hd nb (by simpa using hk.length_eq) fun i z e => hk.item i z (by simpa using e)
  | _, _, .tup (a := a) (ds := ds) hq ha, u, r, hs, hz => by
    cases r
    obtain ⟨its, rv, ⟨o, ho, hc, n, hd⟩, _⟩ := I.tuple hq
    have hz1 : (tupleText (PyData.shownAll ds)).length ≤ sizeLine := by simpa only [PyData.shown] using hz
    obtain ⟨as, bs, rd, hb, hk⟩ := DqAll.rk I ha its rv (by simpa [PyData.showable] using hs)
      fun t ht => Nat.le_trans (tupleText_mem_le ht) hz1
    have R : Reads s.heap (.ref a) (.tuple ds) _ := .tuple ho hc hd rd
    have nb : a ∉ bs := not_mem_of_deeper R (by simp only [PyData.depth]; omega) hb
    refine ⟨_, a :: bs, R, ReadAtMost.cons R (by simp only [PyData.depth]; omega) hb, ?_⟩
    simp only [PyData.depth, PyData.shown]
    exact ReprK.tuple ho hc hd nb hk
  | _, _, .dic (a := a) (kvs := kvs) (ds := ds) hq ha, u, r, hs, hz => by
    cases r
    obtain ⟨_, hsys, vs, rv, o, es, ep, ho, hc, hd, _, hp, _⟩ :=
      (show ObjOk X.prog X.w H s.heap a (.dK kvs) from I.hok a _ hq)
    have hz1 : (dictText (PyData.shownKv ds)).length ≤ sizeLine := by simpa only [PyData.shown] using hz
    obtain ⟨as, cs, bs, r1, r2, hb, hk⟩ := DqKv.rk I ha es.toList vs rv hp (by simpa [PyData.showable] using hs)
      fun t ht => Nat.le_trans (dictText_mem_le ht) hz1
    have R : Reads s.heap (.ref a) (.dict ds) _ := .dict ho hc.1 hd r1 r2
    have nb : a ∉ bs := not_mem_of_deeper R (by simp only [PyData.depth]; omega) hb
    refine ⟨_, a :: bs, R, ReadAtMost.cons R (by simp only [PyData.depth]; omega) hb, ?_⟩
    simp only [PyData.depth, PyData.shown]
    exact ReprK.dict ho hc.1 hd hsys nb hk
theorem DqAll.rk (I : Inv X pins σ H s) : ∀ {vs : List V} {ds : List PyData}, DqAll X.K H vs ds → ∀ us, Vals vs us →
    PyData.showableAll ds = true → (∀ t ∈ PyData.shownAll ds, t.length ≤ sizeLine) →
    ∃ as bs, ReadsAll s.heap us ds as ∧ ReadAtMost s.heap (PyData.depthAll ds) bs ∧
      ReprAllK X.prog X.w bs s.heap (PyData.depthAll ds) us (PyData.shownAll ds)
  | _, _, .nil, us, r, _, _ => by
    cases r
    exact ⟨_, [], .nil, fun _ h => (nomatch h), by simp only [PyData.shownAll]; exact .nil⟩
  | _, _, .cons (d := d) (ds := ds) h hl, us, r, hs, hz => by
    cases r with
    | cons r1 r2 =>
      have h2 : d.showable = true ∧ PyData.showableAll ds = true := by simpa [PyData.showableAll] using hs
      obtain ⟨a1, b1, q1, m1, k1⟩ := Dq.rk I h _ r1 h2.1 (hz _ (by simp only [PyData.shownAll]; exact List.mem_cons_self))
      obtain ⟨a2, b2, q2, m2, k2⟩ := DqAll.rk I hl _ r2 h2.2
        fun t ht => hz t (by simp only [PyData.shownAll]; exact List.mem_cons_of_mem _ ht)
      refine ⟨_, b1 ++ b2, .cons q1 q2, by simp only [PyData.depthAll]; exact ram_app m1 m2, ?_⟩
      simp only [PyData.depthAll, PyData.shownAll]
      exact .cons ((k1.more fun b hb => List.mem_append_left _ hb).level_le (Nat.le_max_left _ _))
        (k2.more_le (fun b hb => List.mem_append_right _ hb) (Nat.le_max_right _ _))
theorem DqKv.rk (I : Inv X pins σ H s) : ∀ {vs : List (Key × V)} {ds : List (PyData × PyData)}, DqKv X.K H vs ds →
    ∀ (es : List DictEntry) (us : List (Key × Value)), KV vs us → Pairs (mixKind X.prog X.w) es us →
    PyData.showableKv ds = true → (∀ t ∈ PyData.shownKv ds, t.length ≤ sizeLine) →
    ∃ as cs bs, ReadsAll s.heap (es.map (·.key)) (ds.map (·.1)) as ∧ ReadsAll s.heap (es.map (·.val)) (ds.map (·.2)) cs ∧
      ReadAtMost s.heap (PyData.depthKv ds) bs ∧
      ReprEntriesK X.prog X.w bs s.heap (PyData.depthKv ds) es (PyData.shownKv ds)
  | _, _, .nil, es, us, r, p, _, _ => by
    cases r
    cases p
    exact ⟨_, _, [], .nil, .nil, fun _ h => (nomatch h), by simp only [PyData.shownKv]; exact .nil⟩
  | _, _, .cons (k := k) (d := d) (ds := ds) h hl, es, us, r, p, hs, hz => by
    cases r with
    | cons r1 r2 =>
      cases p with
      | cons p1 p2 p3 =>
        obtain ⟨e1, r1⟩ := r1
        have h2 : ((kd k).showable = true ∧ d.showable = true) ∧ PyData.showableKv ds = true := by
          simpa [PyData.showableKv] using hs
        have big : ((kd k).shown ++ ": " ++ d.shown).length ≤ sizeLine :=
          hz _ (by simp only [PyData.shownKv]; exact List.mem_cons_self)
        have big2 : (kd k).shown.length + 2 + d.shown.length ≤ sizeLine := by
          have e2 : ((kd k).shown ++ ": " ++ d.shown).length = (kd k).shown.length + 2 + d.shown.length := by
            rw [Str.length_append, Str.length_append]
            rfl
          omega
        rw [← p2] at r1
        rw [← e1] at p1
        dsimp only at p1
        obtain ⟨q0, k0⟩ := rk_key (X := X) (s := s) p1 h2.1.1 (by omega)
        obtain ⟨a1, b1, q1, m1, k1⟩ := Dq.rk I h _ r1 h2.1.2 (by omega)
        obtain ⟨a2, c2, b2, q2, q3, m2, k2⟩ := DqKv.rk I hl _ _ r2 p3 h2.2
          fun t ht => hz t (by simp only [PyData.shownKv]; exact List.mem_cons_of_mem _ ht)
        refine ⟨_, _, b1 ++ b2, .cons q0 q2, .cons q1 q3, ?_, ?_⟩
        · simp only [PyData.depthKv]
          intro c hc
          obtain ⟨d', xs, r', l⟩ := ram_app m1 m2 c hc
          exact ⟨d', xs, r', by omega⟩
        · simp only [PyData.depthKv, PyData.shownKv]
          exact .cons (k0 _ _) ((k1.more fun b hb => List.mem_append_left _ hb).level_le (by omega))
            (ek_more (fun b hb => List.mem_append_right _ hb) (Nat.le_max_right _ _) k2)
end
end
section
variable {X : Cx}
/-- repr(x), x a list, a tuple or a dict of data -/
def rShq (K : PySem.W.Frag) : List V → Hp → VK → Prop := fun xs H Q => ∃ (a : Addr) (d : PyData), xs = [.ref a] ∧
  Dq K H (.ref a) d ∧ d.showable = true ∧ d.depth ≤ 60 ∧ d.shown.length ≤ sizeLine ∧ Q (.str d.shown) H
theorem call_repq (hA : X.A.guards = some []) (hu : X.A.units + 64 < cLine) :
    CallR X (.builtin "repr") (rShq X.K) := by
  intro pins s σ H xs us Q I r h
  obtain ⟨a, d, rfl, hd, hs, hdp, hz, q⟩ := h
  obtain ⟨u, rfl, ru⟩ := vals1 r
  obtain rfl : u = Value.ref a := ru
  have fin : ∀ (t : Str), t = d.shown → ∀ (h' : Heap) (u : Tok) (tk : Nat), (∀ b o, s.heap.get? b = some o → h'.get? b = some o) →
      ∃ x tt, Value.str t u = .str x tt ∧ EP X pins σ Q (.str t u) { s with heap := h', toks := tk } := by
    intro t et h' u tk keep
    subst et
    exact ⟨_, _, rfl, .str _, H, I.kept keep, ⟨u, rfl⟩, q⟩
  cases hd with
  | lst hq ha =>
    rename_i xs ds
    obtain ⟨its, rv, ⟨o, n, ho, hc, _, hdd⟩, _⟩ := I.list hq
    have hz1 : (listText (PyData.shownAll ds)).length ≤ sizeLine := by simpa only [PyData.shown] using hz
    obtain ⟨as, bs, rd, hb, hk⟩ := DqAll.rk I ha its rv (by simpa [PyData.showable] using hs)
      fun t ht => Nat.le_trans (listText_mem_le ht) hz1
    have R : Reads s.heap (.ref a) (.list ds) _ := .list ho hc hdd rd
    have nb : a ∉ bs := not_mem_of_deeper R (by simp only [PyData.depth]; omega) hb
    refine call_repr_slot (by omega) ⟨o, ho, hc⟩ F.slot_list_repr.toG ?_
    simp only [PyData.depth] at hdp
    cases its with
    | nil =>
      cases rd
      exact call_list_repr_empty ⟨o, ho, hc⟩ ho hdd (fin "[]" (by simp [PyData.shown, PyData.shownAll, listText_nil]) _ _ _ fun _ _ e => e)
    | cons y l =>
      exact call_list_reprK ho hc hdd nb (by simpa using hk.length_eq) (fun i z e => hk.item i z (by simpa using e)) hA
        (fun b _ => Clear.nil b) (by show X.A.units + 1 + _ < cLine; omega) (fun _ _ e => e)
        (fun h' u tk keep => fin _ (by simp only [PyData.shown]) h' u tk keep) hz1
  | tup hq ha =>
    rename_i xs ds
    obtain ⟨its, rv, ⟨o, ho, hc, n, hdd⟩, _⟩ := I.tuple hq
    have hz1 : (tupleText (PyData.shownAll ds)).length ≤ sizeLine := by simpa only [PyData.shown] using hz
    obtain ⟨as, bs, rd, hb, hk⟩ := DqAll.rk I ha its rv (by simpa [PyData.showable] using hs)
      fun t ht => Nat.le_trans (tupleText_mem_le ht) hz1
    have R : Reads s.heap (.ref a) (.tuple ds) _ := .tuple ho hc hdd rd
    have nb : a ∉ bs := not_mem_of_deeper R (by simp only [PyData.depth]; omega) hb
    refine call_repr_slot (by omega) ⟨o, ho, hc⟩ F.slot_tuple_repr ?_
    simp only [PyData.depth] at hdp
    exact call_tuple_reprK ho hc hdd nb hk hA (fun b _ => Clear.nil b) (by show X.A.units + 1 + _ < cLine; omega)
      (fun _ _ e => e) (fun h' u tk keep => fin _ (by simp only [PyData.shown]) h' u tk keep) hz1
  | dic hq ha =>
    rename_i kvs ds
    obtain ⟨_, hsys, vs, rv, o, es, ep, ho, hc, hdd, _, hp, _⟩ :=
      (show ObjOk X.prog X.w H s.heap a (.dK kvs) from I.hok a _ hq)
    have hz1 : (dictText (PyData.shownKv ds)).length ≤ sizeLine := by simpa only [PyData.shown] using hz
    obtain ⟨as, cs, bs, r1, r2, hb, hk⟩ := DqKv.rk I ha es.toList vs rv hp (by simpa [PyData.showable] using hs)
      fun t ht => Nat.le_trans (dictText_mem_le ht) hz1
    have R : Reads s.heap (.ref a) (.dict ds) _ := .dict ho hc.1 hdd r1 r2
    have nb : a ∉ bs := not_mem_of_deeper R (by simp only [PyData.depth]; omega) hb
    refine call_repr_slot (by omega) ⟨o, ho, hc.1⟩ F.slot_dict_repr ?_
    simp only [PyData.depth] at hdp
    exact call_dict_reprK ho hc.1 hdd hsys nb hk hA (fun b _ => Clear.nil b) (by show X.A.units + 1 + _ < cLine; omega)
      (fun _ _ e => e) (fun h' u tk keep => fin _ (by simp only [PyData.shown]) h' u tk keep) hz1
end
end L2
namespace L2
open PySem PySem.Spec PyProof.Rows
/-- a list or a tuple -/
def SqS (K : PySem.W.Frag) (H : Hp) (a : Addr) (xs : List V) : Prop := SqL K H a xs ∨ SqT K H a xs
def iSeq (K : PySem.W.Frag) (tl : TE) : TI := fun σ H R => tl σ H fun x H1 => ∃ a, x = .ref a ∧
  (((∃ xs, SqL K H1 a xs) ∧ R (Itl K a) H1) ∨ ((∃ xs, SqT K H1 a xs) ∧ R (Itt K a) H1))
section
variable {X : Cx} {tg : Expr}
theorem pi_seq {l : Expr} {tl : TE} (hl : PE X l tl) : PI X tg l (iSeq X.K tl) := by
  refine ⟨fun pins s σ H R I h => ?_⟩
  refine thn (hl.run pins s σ H _ I h) fun v s1 ⟨x, H1, I1, r1, q1⟩ => ?_
  obtain ⟨a, e, q1⟩ := q1
  subst e
  cases r1
  have fp : ∀ b ∈ [s1.heap.objs.size], FpOk X pins H1 b := fun b hb => by
    obtain rfl : b = s1.heap.objs.size := by simpa using hb
    exact I1.fpOk (Nat.le_refl _) (I1.hok.fresh (Nat.le_refl _))
  rcases q1 with ⟨⟨xs, hq⟩, q⟩ | ⟨⟨xs, hq⟩, q⟩
  · obtain ⟨its, rv, p, _⟩ := I1.list hq
    refine wpAny_pyIter_list p.isList ?_
    exact ⟨s1.heap.objs.size, [s1.heap.objs.size], _, _, H1, rfl,
      I1.kept (t' := s1.toks) (fun b o e => Heap.get?_push_of_some _ e), turn_list a _,
      ⟨_, Heap.get?_push_size _ rfl, rfl, rfl⟩, fp, q⟩
  · obtain ⟨its, rv, p, _⟩ := I1.tuple hq
    refine wpAny_pyIter_tuple (show s1.heap.IsTuple a its.toArray from p) ?_
    exact ⟨s1.heap.objs.size, [s1.heap.objs.size], _, _, H1, rfl,
      I1.kept (t' := s1.toks) (fun b o e => Heap.get?_push_of_some _ e), turn_tuple a _,
      ⟨_, Heap.get?_push_size _ rfl, rfl, rfl⟩, fp, q⟩
end
theorem SqS.new {K : PySem.W.Frag} {H H' : Hp} {a : Addr} {xs : List V} (h : SqS K H a xs) (s : Same H H') : SqS K H' a xs := by
  rcases h with ((h | ⟨o, h⟩) | h) | ((h | ⟨o, h⟩) | h)
  · exact .inl (.inl (.inl (s _ _ h)))
  · exact .inl (.inl (.inr ⟨o, s _ _ h⟩))
  · exact .inl (.inr h)
  · exact .inr (.inl (.inl (s _ _ h)))
  · exact .inr (.inl (.inr ⟨o, s _ _ h⟩))
  · exact .inr (.inr h)
theorem SqS.len {K : PySem.W.Frag} {H : Hp} {a : Addr} {xs : List V} (h : SqS K H a xs) : LenV K (.ref a) H xs.length := by
  rcases h with h | h
  · exact .inl ⟨xs, h, rfl⟩
  · exact .inr ⟨xs, h, rfl⟩
structure SMet (K : PySem.W.Frag) (C : Addr) (m : Str) (g : Addr) : Prop where
  ex : ∃ mc p rest, PySem.W.readsIn K C mc = true ∧
    PySem.W.findCls K (.ref C) mc m = some (.get (.builtin "staticmethod.__get__") (.ref p) .none (.ref C)) ∧
    PySem.W.recIn K p "staticmethod" = some (.ref g :: rest)
  ga : PySem.W.specialIn K (.ref C) "__getattribute__" = some (some (.builtin "type.__getattribute__"))
  kp : PySem.W.keepIn K (.ref g) = true
def tSMeth (C : Addr) (sp : Sp) (dvs : List V) (E : XK) (ta : TE) (t : TA) : TE := fun σ H Q => ta σ H fun x H1 =>
  x = .ref C ∧ t σ H1 fun vs H2 => sp (vs ++ dvs) H2 Q E
section
variable {X : Cx} {CX : CXT} {k : Nat} {C g : Addr} {m : Str} {fd : FuncData} {ps : List Str} {sp : Sp} {dvs : List V}
  {ds : List Value} {E : XK} {e o : Expr} {es : List Expr} {pos apos : Pos} {ta : TE} {t : TA}
theorem getsm {pins : List (Addr × Obj)} {σ : St} {H : Hp} {s : Shared} {pl : Sem Bool} {A : Around}
    {E' : Value → Shared → Prop} {Q : Value × List Value → Shared → Prop} (I : Inv X pins σ H s) (M : SMet X.K C m g)
    (h : ∀ s', Inv X pins σ H s' → Q (.ref g, []) s') :
    wpAny (model X.prog X.w) A (getMethod (.ref C) m pl) Q E' s := by
  obtain ⟨mc, p, rest, hr, hf, hp⟩ := M.ex
  refine PySem.W.method_cls I.kIn M.ga ?_
  refine PySem.W.cls_bind I.kIn hr hf (wpAny_call (PySem.W.sm_get (s := { s with toks := s.toks + 1 }) I.kIn hp
    (PySem.W.handed_on rfl ?_)))
  exact h _ (I.tok _)
/-- C.m(e, ..), m a static method -/
theorem pe_sm {pl : Sem Bool} (he : PE X o ta) (M : SMet X.K C m g)
    (F : FnOk X.prog X.w X.K X.mg X.base CX k g fd ps sp) (hr : Room k X.A) (hb : Binds X.K fd ps ds) (hd : Vals dvs ds)
    (hx : Passes CX X E) (ha : PA X (e :: es) t)
    (hst : starEach (e :: es) X.env = (false, eval e X.env) :: starEach es X.env := by rfl)
    (hpl : (backTo pos (starEach es X.env)).any (·.1) = false := by rfl)
    (ht : eval (.Call (.Attribute o m apos) (e :: es) [] pos) X.env = (do
      let ov ← eval o X.env
      standAt apos.atName
      let (f, first) ← holding [ov] (getMethod ov m pl)
      callWith pos f first (backTo pos (starEach (e :: es) X.env)) (backToKw pos (keywordEach [] X.env))) := by rfl) :
    PE X (.Call (.Attribute o m apos) (e :: es) [] pos) (tSMeth C sp dvs E ta t) := by
  refine ⟨fun pins s σ H Q I h => ?_⟩
  refine PySem.W.methodCall_KW (pl := pl) (thn (he.run pins s σ H _ I h) fun u s1 ⟨x, H1, I1, rx, ex, q⟩ => ?_) ht
  subst ex
  obtain rfl : u = Value.ref C := rx
  refine getsm I1 M fun s2 I2 => ?_
  refine PySem.W.callWith_K (first := []) (h₀ := X.base) I2.ok.mod.kin M.kp
    (thn (ha.run pos pins s2 σ H1 _ I2 q) fun us s3 ⟨vs, H2, I3, r, q2⟩ => ⟨I3.kIn, ?_⟩) hst hpl
  exact run_fn F hr hb hd hx I3 r q2
/-- C.m() -/
theorem pe_sm0 {pl : Sem Bool} (he : PE X o ta) (M : SMet X.K C m g)
    (F : FnOk X.prog X.w X.K X.mg X.base CX k g fd ps sp) (hr : Room k X.A) (hb : Binds X.K fd ps ds) (hd : Vals dvs ds)
    (hx : Passes CX X E)
    (ht : eval (.Call (.Attribute o m apos) [] [] pos) X.env = (do
      let ov ← eval o X.env
      standAt apos.atName
      let (f, first) ← holding [ov] (getMethod ov m pl)
      callWith pos f first (backTo pos (starEach [] X.env)) (backToKw pos (keywordEach [] X.env))) := by rfl) :
    PE X (.Call (.Attribute o m apos) [] [] pos) (tSMeth C sp dvs E ta tNil) := by
  refine ⟨fun pins s σ H Q I h => ?_⟩
  refine PySem.W.methodCall_KW (pl := pl) (thn (he.run pins s σ H _ I h) fun u s1 ⟨x, H1, I1, rx, ex, q⟩ => ?_) ht
  subst ex
  obtain rfl : u = Value.ref C := rx
  refine getsm I1 M fun s2 I2 => ?_
  exact PySem.W.callWith_K0 (first := []) I2.kIn M.kp (run_fn (us := []) F hr hb hd hx I2 .nil q)
end
end L2
namespace L2
open PySem PySem.Spec PyProof.Rows
/-- what a comprehension makes of its items: r by the turn and the item, none where a test leaves it out -/
def fm (r : Nat → V → Option V) : Nat → List V → List V
  | _, [] => []
  | i, x :: xs => (r i x).toList ++ fm r (i + 1) xs
theorem fm_len (r : Nat → V → Option V) : ∀ (xs : List V) (i : Nat), (fm r i xs).length ≤ xs.length
  | [], _ => Nat.le_refl _
  | x :: xs, i => by
    have := fm_len r xs (i + 1)
    unfold fm
    rw [List.length_append, List.length_cons]
    have : ((r i x).toList).length ≤ 1 := by cases r i x <;> simp
    omega
theorem fm_snoc (r : Nat → V → Option V) : ∀ (xs : List V) (x : V) (i : Nat),
    fm r i (xs ++ [x]) = fm r i xs ++ (r (i + xs.length) x).toList
  | [], x, i => by simp [fm]
  | y :: ys, x, i => by
    have e : i + 1 + ys.length = i + (y :: ys).length := by rw [List.length_cons]; omega
    show (r i y).toList ++ fm r (i + 1) (ys ++ [x]) = _
    rw [fm_snoc r ys x (i + 1), e, ← List.append_assoc]
    rfl
/-- one turn's parts -/
def Pure1 (r : Nat → V → Option V) (g : TG) (tt : TT) (te : TE) (vs : List Nat) (σ : St) (i : Nat) (x : V) (H : Hp) : Prop :=
  ∀ (Ky : VK) (Kn : Hp → Prop), (∀ y, r i x = some y → Ky y H) → (r i x = none → Kn H) →
    g x (wipe σ vs) H fun σ2 H2 => wipe σ2 vs = wipe σ vs ∧ tt σ2 H2 fun b H3 => if b = true then te σ2 H3 Ky else Kn H3
theorem pure_turn {r : Nat → V → Option V} {g : TG} {tt : TT} {te : TE} {vs : List Nat} {σ : St} {H1 : Hp} {D : Addr}
    {xs : List V} {i : Nat} {x : V} {Pv : Nat → Hp → Prop} (hx : xs[i]? = some x) (hz : xs.length ≤ sizeLine)
    (hP : ∀ j H, Pv j H ↔ H = upd H1 D (.lst (fm r 0 (xs.take j)))) {H : Hp} (hH : Pv i H)
    (h : Pure1 r g tt te vs σ i x H) :
    g x (wipe σ vs) H fun σ2 H2 => wipe σ2 vs = wipe σ vs ∧ tt σ2 H2 fun b H3 =>
      if b = true then te σ2 H3 fun y H4 => ∃ acc, H4 D = some (.lst acc) ∧ acc.length < sizeLine ∧
        Pv (i + 1) (upd H4 D (.lst (acc ++ [y]))) else Pv (i + 1) H3 := by
  have e := (hP i H).mp hH
  have hi : i < xs.length := (List.getElem?_eq_some_iff.mp hx).1
  have tk : xs.take (i + 1) = xs.take i ++ [x] := by
    rw [List.take_add_one, hx]
    rfl
  have l : (xs.take i).length = i := by rw [List.length_take]; omega
  have sn : fm r 0 (xs.take (i + 1)) = fm r 0 (xs.take i) ++ (r i x).toList := by
    rw [tk, fm_snoc, l, Nat.zero_add]
  refine h _ _ (fun y hy => ?_) fun hn => ?_
  · refine ⟨fm r 0 (xs.take i), by rw [e]; exact upd_same, ?_, (hP _ _).mpr ?_⟩
    · have := fm_len r (xs.take i) 0
      omega
    · rw [e, upd_upd, sn, hy]
      rfl
  · rw [hP, e, sn, hn]
    simp
section
variable {K : PySem.W.Frag} {a : Addr} {xs : List V} {r : Nat → V → Option V} {g : TG} {tt : TT} {te : TE}
  {vs : List Nat} {σ : St} {H : Hp} {Q : VK} {tl : TE}
theorem sqL_upd {H : Hp} {D : Addr} {u : HO} (h : SqL K H a xs) (hD : H D = none) : SqL K (upd H D u) a xs := sq_new hD h
theorem sqT_upd {H : Hp} {D : Addr} {u : HO} (h : SqT K H a xs) (hD : H D = none) : SqT K (upd H D u) a xs := by
  rcases h with (h | ⟨o, h⟩) | h
  · exact .inl (.inl (upd_new hD h))
  · exact .inl (.inr ⟨o, upd_new hD h⟩)
  · exact .inr h
/-- [.. for x in a list] -/
theorem tlc_list (hs : SqL K H a xs) (hz : xs.length ≤ sizeLine) (htl : ∀ R : VK, R (.ref a) H → tl σ H R)
    (ht : ∀ i x H', xs[i]? = some x → Same H H' → Pure1 r g tt te vs σ i x H')
    (hQ : ∀ D, H D = none → Q (.ref D) (upd H D (.lst (fm r 0 xs)))) : tLc (iList K tl) g tt te vs σ H Q := by
  refine htl _ ⟨a, rfl, ⟨xs, hs⟩, fun D hD => ?_⟩
  refine lc_list (K := K) (a := a) (xs := xs) (fun j H' => H' = upd H D (.lst (fm r 0 (xs.take j)))) rfl
    (fun i H' _ e => by rw [e]; exact sqL_upd hs hD) (fun i x H' hx e => ?_) fun H' e => ?_
  · exact pure_turn hx hz (fun _ _ => Iff.rfl) e (ht i x H' hx (by rw [e]; exact Same.new hD))
  · rw [e, List.take_of_length_le (Nat.le_refl _)]
    exact hQ D hD
/-- [.. for x in a tuple] -/
theorem tlc_tup (hs : SqT K H a xs) (hz : xs.length ≤ sizeLine) (htl : ∀ R : VK, R (.ref a) H → tl σ H R)
    (ht : ∀ i x H', xs[i]? = some x → Same H H' → Pure1 r g tt te vs σ i x H')
    (hQ : ∀ D, H D = none → Q (.ref D) (upd H D (.lst (fm r 0 xs)))) : tLc (iTup K tl) g tt te vs σ H Q := by
  refine htl _ ⟨a, rfl, ⟨xs, hs⟩, fun D hD => ?_⟩
  refine lc_tup (K := K) (a := a) (xs := xs) (fun j H' => H' = upd H D (.lst (fm r 0 (xs.take j)))) rfl
    (fun i H' _ e => by rw [e]; exact sqT_upd hs hD) (fun i x H' hx e => ?_) fun H' e => ?_
  · exact pure_turn hx hz (fun _ _ => Iff.rfl) e (ht i x H' hx (by rw [e]; exact Same.new hD))
  · rw [e, List.take_of_length_le (Nat.le_refl _)]
    exact hQ D hD
/-- [.. for x in a list or a tuple] -/
theorem tlc_seq (hs : SqS K H a xs) (hz : xs.length ≤ sizeLine) (htl : ∀ R : VK, R (.ref a) H → tl σ H R)
    (ht : ∀ i x H', xs[i]? = some x → Same H H' → Pure1 r g tt te vs σ i x H')
    (hQ : ∀ D, H D = none → Q (.ref D) (upd H D (.lst (fm r 0 xs)))) : tLc (iSeq K tl) g tt te vs σ H Q := by
  rcases hs with hs | hs
  · exact htl _ ⟨a, rfl, .inl ⟨⟨xs, hs⟩, fun D hD => lc_list (K := K) (a := a) (xs := xs)
      (fun j H' => H' = upd H D (.lst (fm r 0 (xs.take j)))) rfl (fun i H' _ e => by rw [e]; exact sqL_upd hs hD)
      (fun i x H' hx e => pure_turn hx hz (fun _ _ => Iff.rfl) e (ht i x H' hx (by rw [e]; exact Same.new hD)))
      fun H' e => by rw [e, List.take_of_length_le (Nat.le_refl _)]; exact hQ D hD⟩⟩
  · exact htl _ ⟨a, rfl, .inr ⟨⟨xs, hs⟩, fun D hD => lc_tup (K := K) (a := a) (xs := xs)
      (fun j H' => H' = upd H D (.lst (fm r 0 (xs.take j)))) rfl (fun i H' _ e => by rw [e]; exact sqT_upd hs hD)
      (fun i x H' hx e => pure_turn hx hz (fun _ _ => Iff.rfl) e (ht i x H' hx (by rw [e]; exact Same.new hD)))
      fun H' e => by rw [e, List.take_of_length_le (Nat.le_refl _)]; exact hQ D hD⟩⟩
theorem SqS.ty {K : PySem.W.Frag} {H : Hp} {a : Addr} {xs : List V} (h : SqS K H a xs) :
    ∃ T : String, (T = "list" ∨ T = "tuple") ∧ TyX K H (.ref a) (.type T) := by
  rcases h with ((h | ⟨o, h⟩) | ⟨o, _, _, h, c, _⟩) | ((h | ⟨o, h⟩) | ⟨o, _, _, h, c, _⟩)
  · exact ⟨_, .inl rfl, .base (.lst h)⟩
  · exact ⟨_, .inl rfl, .base (.frz h)⟩
  · exact ⟨_, .inl rfl, .kList h c⟩
  · exact ⟨_, .inr rfl, .base (.tup h)⟩
  · exact ⟨_, .inr rfl, .fTuple h⟩
  · exact ⟨_, .inr rfl, .kTuple h c⟩
theorem kit_lt {K : PySem.W.Frag} {T : String} (h : T = "list" ∨ T = "tuple") :
    PySem.W.kitAny K (.type T) [.type "list", .type "tuple"] = some true := by
  rcases h with rfl | rfl
  · refine kitAny_cons (b := true) (kit_ty (by decide +kernel)) (fun z => by cases z) fun _ => rfl
  · refine kitAny_cons (b := false) (kit_ty (by decide +kernel)) (fun _ => ?_) fun z => by cases z
    exact kitAny_cons (b := true) (kit_ty (by decide +kernel)) (fun z => by cases z) fun _ => rfl
theorem fm_map (f : V → V) (r : Nat → V → Option V) (h : ∀ i x, r i x = some (f x)) :
    ∀ (xs : List V) (i : Nat), fm r i xs = xs.map f
  | [], _ => rfl
  | x :: xs, i => by
    unfold fm
    rw [h, fm_map f r h xs]
    rfl
theorem all_true (xs : List V) : fm (fun _ _ => some (V.bl true)) 0 xs = (xs.map fun _ => true).map V.bl := by
  rw [fm_map (fun _ => V.bl true) _ (fun _ _ => rfl), List.map_map]
  rfl
theorem yes_run {te : TE} {σ : St} {H : Hp} {Ky : VK} {Kn : Hp → Prop} (h : te σ H Ky) :
    tYes σ H fun b H3 => if b = true then te σ H3 Ky else Kn H3 := by
  show if true = true then te σ H Ky else Kn H
  rw [if_pos rfl]
  exact h
/-- a module's whole number -/
theorem pe_cst {X : Cx} {x : Str} {i : Int} {pos : Pos} (hg : Gl X x) (h : ∃ t, X.mg x = some (.int i t))
    (hd : (x == ("__debug__" : Str)) = false := by decide) : PE X (.Name x pos) (tC (.int i)) := by
  obtain ⟨t, e⟩ := h
  exact pe_glob hg e ⟨t, rfl⟩ hd
/-- the ints of a range -/
def rngV (lo : Int) (n : Nat) : List V := (List.range n).map fun (i : Nat) => V.int (lo + (i : Int))
theorem rngV_at {lo : Int} {n i : Nat} (h : i < n) : (rngV lo n)[i]? = some (.int (lo + (i : Int))) := by
  unfold rngV
  rw [List.getElem?_map, List.getElem?_range h]
  rfl
theorem rngV_len (lo : Int) (n : Nat) : (rngV lo n).length = n := by
  unfold rngV
  rw [List.length_map, List.length_range]
theorem lc_rng {lo : Int} {n : Nat} {D : Addr} {Qd : Hp → Prop} (hz : n ≤ sizeLine) (hD : H D = none)
    (ht : ∀ i H', i < n → Same H H' → Pure1 r g tt te vs σ i (.int (lo + (i : Int))) H')
    (hQ : Qd (upd H D (.lst (fm r 0 (rngV lo n))))) :
    ∃ W : Nat → Nat → Hp → Prop, (∃ m, W 0 m (upd H D (.lst []))) ∧ ∀ i m H, W i m H →
      ((Itr lo n).stop i H ∧ Qd H) ∨ ((Itr lo n).go i H ∧ ∃ Nx : Hp → Prop,
        (∀ H', Nx H' → ∃ m', m' < m ∧ W (i + 1) m' H') ∧ ∀ x H', (Itr lo n).yld i H x H' → g x (wipe σ vs) H'
          fun σ2 H2 => wipe σ2 vs = wipe σ vs ∧ tt σ2 H2 fun b H3 => if b = true then te σ2 H3 fun y H4 =>
            ∃ acc, H4 D = some (.lst acc) ∧ acc.length < sizeLine ∧ Nx (upd H4 D (.lst (acc ++ [y]))) else Nx H3) := by
  refine lc_range (lo := lo) (n := n) (fun j H' => H' = upd H D (.lst (fm r 0 ((rngV lo n).take j)))) rfl
    (fun i H' hi e => ?_) fun H' e => ?_
  · exact pure_turn (xs := rngV lo n) (rngV_at hi) (by rw [rngV_len]; exact hz) (fun _ _ => Iff.rfl) e
      (ht i H' hi (by rw [e]; exact Same.new hD))
  · rw [e, List.take_of_length_le (by rw [rngV_len]; exact Nat.le_refl _)]
    exact hQ
end
end L2
namespace L2
open PySem PySem.Spec PyProof.Rows
theorem cut_from (xs : List V) (b : Nat) : cutV xs (some (b : Int)) none = xs.drop b := by
  have q : cutV xs (some (b : Int)) none = (xs.drop (HT.sIx xs.length 0 (some (b : Int)))).take
      (HT.sIx xs.length xs.length none - HT.sIx xs.length 0 (some (b : Int))) := rfl
  rw [q, HT.sIx_nat, HT.sIx_none]
  by_cases h : b ≤ xs.length
  · rw [Nat.min_eq_left h, List.take_of_length_le]
    rw [List.length_drop]
    exact Nat.le_refl _
  · rw [Nat.min_eq_right (by omega), List.drop_of_length_le (by omega), List.drop_of_length_le (by omega)]
    simp
theorem cut_to (xs : List V) (k : Nat) : cutV xs none (some (k : Int)) = xs.take k := by
  have q : cutV xs none (some (k : Int)) = (xs.drop (HT.sIx xs.length 0 none)).take
      (HT.sIx xs.length xs.length (some (k : Int)) - HT.sIx xs.length 0 none) := rfl
  rw [q, HT.sIx_nat, HT.sIx_none, List.drop_zero]
  by_cases h : k ≤ xs.length
  · rw [Nat.min_eq_left h]
    rfl
  · rw [Nat.min_eq_right (by omega), List.take_of_length_le (by omega), List.take_of_length_le (by omega)]
theorem fm_idx (r : Nat → V → Option V) (f : Nat → V) (h : ∀ i x, r i x = some (f i)) : ∀ (xs : List V) (k : Nat),
    fm r k xs = (List.range xs.length).map fun i => f (k + i)
  | [], _ => rfl
  | x :: xs, k => by
    unfold fm
    rw [h, fm_idx r f h xs (k + 1), List.length_cons, List.range_succ_eq_map]
    simp only [Option.toList, List.singleton_append, List.map_cons, List.map_map]
    congr 1
    apply List.map_congr_left
    intro i _
    show f (k + 1 + i) = f (k + (i + 1))
    congr 1
    omega
end L2
namespace L2
open PySem PySem.Spec PyProof.Rows
/-- what a def of the top keeps, whatever its guards are -/
def Kf (P : Program) (w : World) (K : PySem.W.Frag) (mg : Str → Option Value) (base : Heap) (k : Nat) (x : Str)
    (ps : List Str) (sp : Sp) : Prop :=
  ∃ f fd, mg x = some (.ref f) ∧ PySem.W.keepIn K (.ref f) = true ∧ Binds K fd ps [] ∧
    FnOk P w K mg base CX0 k f fd ps sp
section
variable {P : Program} {w : World} {K : PySem.W.Frag} {mg : Str → Option Value} {base : Heap}
theorem OwnD.okF {x : Str} {st : Stmt} {N ps : List Str} {k : Nat} {sp : Sp} (O : OwnD K mg x st ps)
    (S : FnScope N ps (defScope st)) (len : ∀ vs H Q E, sp vs H Q E → vs.length = ps.length)
    (hbody : ∀ (f : Addr) (cdv : Value) (A : Around) (outer : List Env) (s : Shared) (H : Hp) (vs : List V) (Q : VK)
      (E : XK), True →
      Room k (A.deeper (envOfC x (defScope st) s.heap.objs.size f cdv)) → sp vs H Q E →
      ∃ t, PSs (cxOf CX0 P w K mg base N x (defScope st) f cdv A outer s H E).nox (defBody st) t ∧
        t { nx := fun _ H' => Q .non H', rt := Q } (start N vs) H) :
    Kf P w K mg base (k + 1) x ps sp := by
  obtain ⟨f, fd, hm, F, b⟩ := O
  exact ⟨f, fd, hm, F.kp, b, F.ok S len fun cdv A outer s H vs Q E hr h => hbody f cdv A outer s H vs Q E trivial hr h⟩
end
section
variable {X : Cx} {k j : Nat} {ps : List Str} {sp : Sp} {x : Str} {p pos : Pos} {e : Expr} {es : List Expr} {t : TA}
theorem pe_kf (F : Kf X.prog X.w X.K X.mg X.base k x ps sp) {G : Prop} (hA : G) (hr : Room j X.A)
    (hg : Gl X x) (ha : PA X (e :: es) t) (hj : k ≤ j := by decide)
    (hdb : (x == ("__debug__" : Str)) = false := by decide)
    (he : starEach (e :: es) X.env = (false, eval e X.env) :: starEach es X.env := by rfl)
    (hpl : (backTo pos (starEach es X.env)).any (·.1) = false := by rfl)
    (hx : Passes CX0 X E0 := by exact pass0) :
    PE X (.Call (.Name x p) (e :: es) [] pos) (tCall sp [] E0 t) := by
  obtain ⟨f, fd, hm, hk, hb, G⟩ := F
  exact pe_call G (hr.mono hj) hg hm hk hb .nil hx ha hdb he hpl
end
end L2
namespace L2
open PySem PySem.Spec PyProof.Rows
def rMaxD (vs zs : List V) (H : Hp) (Q : VK) : Prop := ∃ (a : Addr) (ns : List Int) (z : V), vs = [.ref a] ∧ zs = [z] ∧
  H a = some (.lst (ns.map V.int)) ∧ (ns = [] → Q z H) ∧ ∀ m, m ∈ ns → (∀ y ∈ ns, y ≤ m) → Q (.int m) H
theorem reads_ints {h : Heap} : ∀ {ns : List Int} {us : List Value}, Vals (ns.map V.int) us →
    ReadsAll h us (ns.map PyData.int) []
  | [], _, r => by
    cases r
    exact .nil
  | n :: ns, _, r => by
    cases r with
    | cons a b =>
      obtain ⟨t, rfl⟩ := a
      exact ReadsAll.cons (as := []) (.int n t) (reads_ints b)
theorem alike_ints (ns : List Int) : PySem.W.AlikeAll (ns.map PyData.int) := by
  constructor
  · intro x hx y hy
    obtain ⟨a, _, rfl⟩ := List.mem_map.mp hx
    obtain ⟨b, _, rfl⟩ := List.mem_map.mp hy
    simp [PySem.W.alike]
  · intro x hx
    obtain ⟨a, _, rfl⟩ := List.mem_map.mp hx
    intro h
    cases h
theorem depth_ints : ∀ ns : List Int, PyData.depthAll (ns.map PyData.int) ≤ 1
  | [] => by simp [PyData.depthAll]
  | n :: ns => by
    have := depth_ints ns
    simp [PyData.depthAll, PyData.depth]
    omega
theorem foldl_max_spec : ∀ (ns : List Int) (n : Int), (ns.foldl max n ∈ n :: ns) ∧ ∀ y ∈ n :: ns, y ≤ ns.foldl max n
  | [], n => ⟨List.mem_singleton_self _, fun y hy => by
      rw [List.mem_singleton] at hy
      rw [hy]
      exact Int.le_refl _⟩
  | k :: ns, n => by
    obtain ⟨h1, h2⟩ := foldl_max_spec ns (max n k)
    rw [List.foldl_cons]
    refine ⟨?_, fun y hy => ?_⟩
    · rcases List.mem_cons.mp h1 with e | e
      · rw [e]
        rcases Int.le_total n k with z | z
        · rw [Int.max_eq_right z]
          simp
        · rw [Int.max_eq_left z]
          simp
      · exact List.mem_cons_of_mem _ (List.mem_cons_of_mem _ e)
    · have h3 := h2 (max n k) (List.mem_cons_self ..)
      rcases List.mem_cons.mp hy with e | e
      · rw [e]
        exact Int.le_trans (Int.le_max_left n k) h3
      · rcases List.mem_cons.mp e with e | e
        · rw [e]
          exact Int.le_trans (Int.le_max_right n k) h3
        · exact h2 y (List.mem_cons_of_mem _ e)
theorem cr_maxD {X : Cx} (hcm : X.calm = true) (hu : X.A.units + 64 < cLine) : CallRK X (.builtin "max") ["default"] rMaxD := by
  intro pins s σ H xs zs us ws Q I r rz h
  obtain ⟨a, ns, z, rfl, rfl, hl, q0, q1⟩ := h
  obtain ⟨u, rfl, ru⟩ := vals1 r
  obtain rfl : u = Value.ref a := ru
  obtain ⟨d, rfl, rd⟩ := vals1 rz
  obtain ⟨its, rv, ⟨o, n, ho, hc, _, hdd⟩, _⟩ := I.list (SqL.of hl)
  have R := reads_ints (h := s.heap) rv
  refine PySem.W.max_list_default (as := []) (I.ok.hd hcm) ⟨o, ho, hc, n, hdd⟩ (by simpa using R) (alike_ints ns) (by have := depth_ints ns; omega) (fun e h' tk keep => ?_) fun y ys i v h' tk bs e hv rd' keep => ?_
  · refine ⟨z, H, I.kept keep, rd, q0 ?_⟩
    cases ns with
    | nil => rfl
    | cons a l => cases e
  · cases ns with
    | nil => cases e
    | cons n1 ns1 =>
      obtain ⟨rfl, rfl⟩ : y = .int n1 ∧ ys = ns1.map PyData.int := by
        rw [List.map_cons] at e
        cases e
        exact ⟨rfl, rfl⟩
      rw [PySem.W.maxD_ints] at rd'
      generalize hm : List.foldl max n1 ns1 = m at rd'
      have sp := foldl_max_spec ns1 n1
      rw [hm] at sp
      cases rd' with
      | int _ t => exact ⟨.int m, H, I.kept keep, ⟨t, rfl⟩, q1 m sp.1 sp.2⟩
end L2
namespace L2
open PySem PySem.Spec PyProof.Rows
/-- a reading may be made weaker -/
theorem PE.weaker {X : Cx} {e : Expr} {t t' : TE} (h : PE X e t) (imp : ∀ σ H Q, t' σ H Q → t σ H Q) : PE X e t' :=
  ⟨fun pins s σ H Q I z => h.run pins s σ H Q I (imp σ H Q z)⟩
/-- a def of a class, its own text -/
abbrev MD (K : PySem.W.Frag) (x qual : Str) (st : Stmt) (dvs : List V) (f : Addr) (fd : FuncData) : Prop :=
  FunD K x qual (defArgs st) (defBody st) (defScope st) dvs [] f fd
section
variable {P : Program} {w : World} {K : PySem.W.Frag} {mg : Str → Option Value} {base : Heap}
theorem FunD.okM {x qual : Str} {st : Stmt} {dvs : List V} {f : Addr} {fd : FuncData} {N ps : List Str} {k : Nat} {sp : Sp}
    (F : MD K x qual st dvs f fd)
    (S : FnScope N ps (defScope st)) (len : ∀ vs H Q E, sp vs H Q E → vs.length = ps.length)
    (hbody : ∀ (f : Addr) (cdv : Value) (A : Around) (outer : List Env) (s : Shared) (H : Hp) (vs : List V) (Q : VK)
      (E : XK), True →
      Room k (A.deeper (envOfC qual (defScope st) s.heap.objs.size f cdv)) → sp vs H Q E →
      ∃ t, PSs (cxOf CX0 P w K mg base N qual (defScope st) f cdv A outer s H E).nox (defBody st) t ∧
        t { nx := fun _ H' => Q .non H', rt := Q } (start N vs) H) :
    FnOk P w K mg base CX0 (k + 1) f fd ps sp :=
  F.ok S len fun cdv A outer s H vs Q E hr h =>
    have ⟨t, ht, q⟩ := hbody f cdv A outer s H vs Q E trivial hr h
    ⟨t, ht.nox, q⟩
/-- what a property keeps -/
def Kpr (P : Program) (w : World) (K : PySem.W.Frag) (mg : Str → Option Value) (base : Heap) (C : Addr) (k : Nat) (x : Str)
    (sp : Sp) : Prop :=
  ∃ p g fd, PropOf K C x p g ∧ Binds K fd ["self"] [] ∧ FnOk P w K mg base CX0 k g fd ["self"] sp
/-- what making an object keeps, all arguments given -/
def Kmk (P : Program) (w : World) (K : PySem.W.Frag) (mg : Str → Option Value) (base : Heap) (C : Addr) (k : Nat) (ps : List Str)
    (sp : Sp) (Dv : V → Prop) : Prop :=
  ∃ f fd d, Mk K C f ∧ Binds K fd ps [] ∧ (∃ ds, Vals [d] ds ∧ Binds K fd ps ds) ∧ Dv d ∧ FnOk P w K mg base CX0 k f fd ps sp
/-- what a static method keeps -/
def Ksm (P : Program) (w : World) (K : PySem.W.Frag) (mg : Str → Option Value) (base : Heap) (C : Addr) (k : Nat) (x : Str)
    (ps : List Str) (dvs : List V) (sp : Sp) : Prop :=
  ∃ g fd ds, SMet K C x g ∧ Vals dvs ds ∧ Binds K fd ps ds ∧ FnOk P w K mg base CX0 k g fd ps sp
/-- C(e) where one more parameter has a default -/
def tMake1 (C : Addr) (sp : Sp) (Dv : V → Prop) (E : XK) (t : TA) : TE := fun σ H Q => t σ H fun vs H1 =>
  ∀ x dx d, H1 x = none → H1 dx = none → dx ≠ x → Dv d →
    sp (.ref x :: (vs ++ [d])) (upd (upd H1 dx (.own x)) x (.ins C dx [])) (fun v H2 => v = .non ∧ Q (.ref x) H2) E
end
section
variable {X : Cx} {k j : Nat} {ps : List Str} {sp : Sp} {x : Str} {p pos : Pos} {e : Expr} {es : List Expr} {t : TA} {C : Addr}
  {Dv : V → Prop}
theorem pe_kpr {ta : TE} (F : Kpr X.prog X.w X.K X.mg X.base C k x sp) (hC : Cls X.K C) (hr : Room j X.A) (he : PE X e ta)
    (hj : k + 1 ≤ j := by decide) (hx : Passes CX0 X.nox E0 := by exact pass0)
    (hb : attributeBase e x X.env (eval e X.env) = eval e X.env := by rfl) :
    PE X (.Attribute e x pos) (tProp C sp [] E0 ta) := by
  obtain ⟨p, g, fd, hp, hbd, F⟩ := F
  exact pe_prop he hC hp F (hr.mono hj) hbd .nil hx hb
theorem pe_kmk (F : Kmk X.prog X.w X.K X.mg X.base C k ps sp Dv) (hr : Room j X.A) (hg : Gl X x) (hm : X.mg x = some (.ref C))
    (ha : PA X (e :: es) t) (hj : k + 1 ≤ j := by decide) (hdb : (x == ("__debug__" : Str)) = false := by decide)
    (he : starEach (e :: es) X.env = (false, eval e X.env) :: starEach es X.env := by rfl)
    (hpl : (backTo pos (starEach es X.env)).any (·.1) = false := by rfl) (hx : Passes CX0 X E0 := by exact pass0) :
    PE X (.Call (.Name x p) (e :: es) [] pos) (tMake C sp [] E0 t) := by
  obtain ⟨f, fd, d, M, b, _, _, F⟩ := F
  exact pe_make M F (hr.mono hj) hg hm b .nil hx ha hdb he hpl
theorem pe_kmk1 (F : Kmk X.prog X.w X.K X.mg X.base C k ps sp Dv) (hr : Room j X.A) (hg : Gl X x) (hm : X.mg x = some (.ref C))
    (ha : PA X (e :: es) t) (mono : ∀ σ H (Q Q' : List V → Hp → Prop), (∀ vs H', Q vs H' → Q' vs H') → t σ H Q → t σ H Q')
    (hj : k + 1 ≤ j := by decide) (hdb : (x == ("__debug__" : Str)) = false := by decide)
    (he : starEach (e :: es) X.env = (false, eval e X.env) :: starEach es X.env := by rfl)
    (hpl : (backTo pos (starEach es X.env)).any (·.1) = false := by rfl) (hx : Passes CX0 X E0 := by exact pass0) :
    PE X (.Call (.Name x p) (e :: es) [] pos) (tMake1 C sp Dv E0 t) := by
  obtain ⟨f, fd, d, M, _, ⟨ds, hd, b⟩, dv, F⟩ := F
  refine (pe_make M F (hr.mono hj) hg hm b hd hx ha hdb he hpl).weaker fun σ H Q h => ?_
  exact mono σ H _ _ (fun vs H1 z x dx a1 a2 a3 => z x dx d a1 a2 a3 dv) h
theorem pe_ksm {o : Expr} {apos : Pos} {ta : TE} {dvs : List V} {pl : Sem Bool} (F : Ksm X.prog X.w X.K X.mg X.base C k x ps dvs sp) (hr : Room j X.A)
    (ho : PE X o ta) (ha : PA X (e :: es) t) (hj : k ≤ j := by decide)
    (he : starEach (e :: es) X.env = (false, eval e X.env) :: starEach es X.env := by rfl)
    (hpl : (backTo pos (starEach es X.env)).any (·.1) = false := by rfl)
    (hev : eval (.Call (.Attribute o x apos) (e :: es) [] pos) X.env = (do
      let ov ← eval o X.env
      standAt apos.atName
      let (f, first) ← holding [ov] (getMethod ov x pl)
      callWith pos f first (backTo pos (starEach (e :: es) X.env)) (backToKw pos (keywordEach [] X.env))) := by rfl)
    (hx : Passes CX0 X E0 := by exact pass0) :
    PE X (.Call (.Attribute o x apos) (e :: es) [] pos) (tSMeth C sp dvs E0 ta t) := by
  obtain ⟨g, fd, ds, S, hd, b, F⟩ := F
  exact pe_sm ho S F (hr.mono hj) b hd hx ha he hpl hev
theorem pe_ksm0 {o : Expr} {apos : Pos} {ta : TE} {dvs : List V} {pl : Sem Bool} (F : Ksm X.prog X.w X.K X.mg X.base C k x ps dvs sp) (hr : Room j X.A)
    (ho : PE X o ta) (hj : k ≤ j := by decide)
    (hev : eval (.Call (.Attribute o x apos) [] [] pos) X.env = (do
      let ov ← eval o X.env
      standAt apos.atName
      let (f, first) ← holding [ov] (getMethod ov x pl)
      callWith pos f first (backTo pos (starEach [] X.env)) (backToKw pos (keywordEach [] X.env))) := by rfl)
    (hx : Passes CX0 X E0 := by exact pass0) :
    PE X (.Call (.Attribute o x apos) [] [] pos) (tSMeth C sp dvs E0 ta tNil) := by
  obtain ⟨g, fd, ds, S, hd, b, F⟩ := F
  exact pe_sm0 ho S F (hr.mono hj) b hd hx hev
end
end L2
namespace L2
open PySem PySem.Spec PyProof.Rows
def rIsIB : R2 := fun x y H Q => ∃ (i : Int) (b : Bool), x = .int i ∧ y = .bl b ∧ Q (.bl false) H
theorem op_isIB {X : Cx} : OpR X (compareOp .Is) rIsIB := by
  intro pins s σ H x y v u Q I rx ry h
  obtain ⟨i, b, rfl, rfl, q⟩ := h
  obtain ⟨t, rfl⟩ := rx
  cases (show u = Value.bool b from ry)
  exact wpAny_is_other rfl (fun z => Value.noConfusion z) ⟨.bl false, H, I, rfl, q⟩
/-- each item of three lists in a new triple -/
def Itz3 (K : PySem.W.Frag) (a b c : Addr) : It :=
  ⟨fun i H => ∃ (xs ys zs : List V) (x y z : V), SqL K H a xs ∧ SqL K H b ys ∧ SqL K H c zs ∧ xs[i]? = some x ∧ ys[i]? = some y ∧ zs[i]? = some z,
    fun i H v H' => ∃ T x y z, v = .ref T ∧ H T = none ∧ H' = upd H T (.tup [x, y, z]) ∧ (∀ xs, SqL K H a xs → xs[i]? = some x) ∧
      (∀ ys, SqL K H b ys → ys[i]? = some y) ∧ (∀ zs, SqL K H c zs → zs[i]? = some z),
    fun i H => ∃ xs ys zs : List V, SqL K H a xs ∧ SqL K H b ys ∧ SqL K H c zs ∧ i ≤ xs.length ∧ i ≤ ys.length ∧ i ≤ zs.length ∧
      (i = xs.length ∨ i = ys.length ∨ i = zs.length)⟩
structure Zip3L (z TI TO i1 i2 i3 a b c : Addr) : Prop where
  S : ZipSep3 z TI TO i1 i2 i3 [i1, a] [i2, b] [i3, c]
  ai : a ≠ i1
  bi : b ≠ i2
  ci : c ≠ i3
theorem turn_zip3 {P : Program} {w : World} {K : PySem.W.Frag} {elts : List Expr} {kk : Nat} {tpos : Pos} {a b c zz TI TO i1 i2 i3 : Addr} (D : Zip3L zz TI TO i1 i2 i3 a b c) :
    Turn P w K (.Tuple elts kk tpos) (Itz3 K a b c) [zz, TI, TO, i1, i2, i3] zz (fun i h => IsZip h zz TI TO .none ∧ IsTupOf3 h TI (.ref i1) (.ref i2) (.ref i3) ∧ (∃ x y z, IsTupOf3 h TO x y z) ∧ h.IsListIter i1 a i ∧ h.IsListIter i2 b i ∧ h.IsListIter i3 c i) where
  mem := by simp
  obj := fun i h st cc hc => by
    obtain ⟨hz, hTI, ⟨x, y, z, hTO⟩, ⟨o1, e1, _, d1⟩, ⟨o2, e2, _, d2⟩, ⟨o3, e3, _, d3⟩⟩ := st
    have e' : cc = zz ∨ cc = TI ∨ cc = TO ∨ cc = i1 ∨ cc = i2 ∨ cc = i3 := by simpa using hc
    rcases e' with q | q | q | q | q | q
    · rw [q]; exact ⟨_, hz, fun v q => nomatch q⟩
    · rw [q]; exact ⟨_, hTI, fun v q => nomatch q⟩
    · rw [q]; exact ⟨_, hTO, fun v q => nomatch q⟩
    · rw [q]; exact ⟨o1, e1, fun v q => by rw [d1] at q; cases q⟩
    · rw [q]; exact ⟨o2, e2, fun v q => by rw [d2] at q; cases q⟩
    · rw [q]; exact ⟨o3, e3, fun v q => by rw [d3] at q; cases q⟩
  keep := fun i h h' st k => by
    obtain ⟨hz, hTI, ⟨x, y, z, hTO⟩, h1, h2, h3⟩ := st
    exact ⟨k zz (by simp) _ hz, k TI (by simp) _ hTI, ⟨x, y, z, k TO (by simp) _ hTO⟩, h1.at fun o q => k i1 (by simp) o q, h2.at fun o q => k i2 (by simp) o q, h3.at fun o q => k i3 (by simp) o q⟩
  item := by
    intro X hP hw hK hc i pins s σ H E I hf st hg
    subst hP hw hK
    obtain ⟨hz, hTI, ⟨x0, y0, z0, hTO⟩, h1, h2, h3⟩ := st
    obtain ⟨xs, ys, zs, x, y, z, hqx, hqy, hqz, hx, hy, hzz⟩ := hg
    obtain ⟨its, rv, p, _⟩ := I.list hqx
    obtain ⟨its2, rv2, p2, _⟩ := I.list hqy
    obtain ⟨its3, rv3, p3, _⟩ := I.list hqz
    obtain ⟨u, hu, ru⟩ := rv.get hx
    obtain ⟨u2, hu2, ru2⟩ := rv2.get hy
    obtain ⟨u3, hu3, ru3⟩ := rv3.get hzz
    have lt : ∀ {l : List Value} {v : Value}, l[i]? = some v → i < l.toArray.size := fun {l v} e => by
      rw [List.size_toArray]
      rcases Nat.lt_or_ge i l.length with h | h
      · exact h
      · rw [List.getElem?_eq_none h] at e
        cases e
    have hzl : zz < s.heap.objs.size := Heap.lt_size hz
    have hh : X.A.handled = none := I.ok.hd hc
    refine wpAny_pyNext_zipD3_item D.S (Draws.list (by exact hh) i1 a D.ai its.toArray) (Draws.list (by exact hh) i2 b D.bi its2.toArray) (Draws.list (by exact hh) i3 c D.ci its3.toArray)
      hz hTI hTO ⟨h1, p.isList⟩ ⟨h2, p2.isList⟩ ⟨h3, p3.isList⟩ (lt hu) (lt hu2) (lt hu3) fun w1 w2 w3 h' tk y1 y2 y3 z' TO' h1' h2' h3' hT hsz hk => ?_
    obtain rfl : w1 = u := by
      have y1' : its[i]? = some w1 := by simpa using y1
      rw [hu] at y1'
      exact (Option.some.inj y1').symm
    obtain rfl : w2 = u2 := by
      have y1' : its2[i]? = some w2 := by simpa using y2
      rw [hu2] at y1'
      exact (Option.some.inj y1').symm
    obtain rfl : w3 = u3 := by
      have y1' : its3[i]? = some w3 := by simpa using y3
      rw [hu3] at y1'
      exact (Option.some.inj y1').symm
    refine ⟨_, rfl, wpAny_letOwnedTupleGo_zip (s := { s with heap := h', toks := tk }) z' fun h'' z'' sb => ?_⟩
    have hT2 : h''.get? s.heap.objs.size = some { cls := .type "tuple", data := .seq #[w1, w2, w3] } := (sb.2 _ (Nat.ne_of_gt hzl)).trans hT
    have new : ObjOk X.prog X.w (upd H s.heap.objs.size (.tup [x, y, z])) h'' s.heap.objs.size (.tup [x, y, z]) :=
      ⟨by show 3 ≤ sizeLine; decide, [w1, w2, w3], .cons ru (.cons ru2 (.cons ru3 .nil)), ⟨_, hT2, rfl, _, rfl⟩⟩
    have I1 : Inv X pins σ (upd H s.heap.objs.size (.tup [x, y, z])) { s with heap := h'', toks := tk } :=
      I.turnedNew (ch := [zz, TI, TO, i1, i2, i3]) (fun c o hb q => (sb.2 c (fun q' => hb (by simp [q']))).trans (hk c o (fun q' => hb (by simp [q'])) (fun q' => hb (by simp [q'])) (fun q' => hb (by simp [q'])) (fun q' => hb (by simp [q'])) (fun q' => hb (by simp [q'])) q)) hf (Nat.le_refl _) new
    refine ⟨.ref s.heap.objs.size, _, I1, rfl, ⟨_, x, y, z, rfl, I.hok.fresh (Nat.le_refl _), rfl, fun l hl => ?_, fun l hl => ?_, fun l hl => ?_⟩, ⟨z'', ?_, ⟨w1, w2, w3, ?_⟩, ?_, ?_, ?_⟩, fun cc hcm => ?_⟩
    · rw [I.list_inj hl hqx]
      exact hx
    · rw [I.list_inj hl hqy]
      exact hy
    · rw [I.list_inj hl hqz]
      exact hzz
    · exact (sb.2 _ D.S.TIz).trans (hk _ _ D.S.TIz D.S.TITO D.S.TIi1 D.S.TIi2 D.S.TIi3 hTI)
    · exact (sb.2 _ D.S.TOz).trans TO'
    · exact h1'.1.at fun o q => (sb.2 _ (Ne.symm D.S.zi1)).trans q
    · exact h2'.1.at fun o q => (sb.2 _ (Ne.symm D.S.zi2)).trans q
    · exact h3'.1.at fun o q => (sb.2 _ (Ne.symm D.S.zi3)).trans q
    · have hlt : cc < s.heap.objs.size := by
        have e' : cc = zz ∨ cc = TI ∨ cc = TO ∨ cc = i1 ∨ cc = i2 ∨ cc = i3 := by simpa using hcm
        rcases e' with q | q | q | q | q | q
        · rw [q]; exact hzl
        · rw [q]; exact Heap.lt_size hTI
        · rw [q]; exact Heap.lt_size hTO
        · rw [q]; obtain ⟨_, e1, _⟩ := h1; exact Heap.lt_size e1
        · rw [q]; obtain ⟨_, e2, _⟩ := h2; exact Heap.lt_size e2
        · rw [q]; obtain ⟨_, e3, _⟩ := h3; exact Heap.lt_size e3
      rw [upd_ne (Nat.ne_of_lt hlt)]
      exact (hf cc hcm).1
  done := by
    intro X hP hw hK hc i pins s σ H E I hf st hg
    subst hP hw hK
    obtain ⟨hz, hTI, ⟨x0, y0, z0, hTO⟩, h1, h2, h3⟩ := st
    obtain ⟨xs, ys, zs, hqx, hqy, hqz, l1, l2, l3, he⟩ := hg
    obtain ⟨its, rv, p, _⟩ := I.list hqx
    obtain ⟨its2, rv2, p2, _⟩ := I.list hqy
    obtain ⟨its3, rv3, p3, _⟩ := I.list hqz
    have e1 := rv.length
    have e2 := rv2.length
    have e3 := rv3.length
    have hh : X.A.handled = none := I.ok.hd hc
    exact wpAny_pyNext_zipD3_end D.S (Draws.list (by exact hh) i1 a D.ai its.toArray) (Draws.list (by exact hh) i2 b D.bi its2.toArray) (Draws.list (by exact hh) i3 c D.ci its3.toArray)
      hz hTI hTO ⟨h1, p.isList⟩ ⟨h2, p2.isList⟩ ⟨h3, p3.isList⟩ (by rw [List.size_toArray]; omega) (by rw [List.size_toArray]; omega) (by rw [List.size_toArray]; omega)
      (by rw [List.size_toArray, List.size_toArray, List.size_toArray]; omega) fun h' tk hk => ⟨rfl, I.turnedL (ch := [zz, TI, TO, i1, i2, i3]) (fun c o hb q =>
      hk c o (fun q' => hb (by simp [q'])) (fun q' => hb (by simp [q'])) (fun q' => hb (by simp [q'])) (fun q' => hb (by simp [q'])) (fun q' => hb (by simp [q'])) q) hf⟩
  self := fun A i s Q E st h => wpAny_pyIter_zip st.1 h
theorem zip3L_of {n a b c : Nat} (la : a < n) (lb : b < n) (lc : c < n) : Zip3L (n + 5) (n + 3) (n + 4) n (n + 1) (n + 2) a b c := by
  have n4 : ∀ i j : Nat, i ≠ j → n + i ≠ n + j := fun i j h => by omega
  have mem2 : ∀ {x u v : Nat}, x ≠ u → x ≠ v → x ∉ ([u, v] : List Nat) := fun h1 h2 h => by
    simp only [List.mem_cons, List.not_mem_nil, or_false] at h
    exact h.elim h1 h2
  exact ⟨⟨by show n + 3 ≠ n + 5; omega, by show n + 4 ≠ n + 5; omega, by show n + 3 ≠ n + 4; omega, by show n + 3 ≠ n; omega, List.mem_cons_self, mem2 (by omega) (by omega), mem2 (by omega) (by omega),
    by show n + 3 ≠ n + 1; omega, List.mem_cons_self, mem2 (by omega) (by omega), mem2 (by omega) (by omega),
    by show n + 3 ≠ n + 2; omega, List.mem_cons_self, mem2 (by omega) (by omega), mem2 (by omega) (by omega),
    mem2 (by omega) (by omega), mem2 (by omega) (by omega), mem2 (by omega) (by omega), mem2 (by omega) (by omega), mem2 (by omega) (by omega), mem2 (by omega) (by omega)⟩,
    by show a ≠ n; omega, by show b ≠ n + 1; omega, by show c ≠ n + 2; omega⟩
def iZip3 (K : PySem.W.Frag) (ta : TA) : TI := fun σ H R => ta σ H fun vs H1 => ∃ a b c xs ys zs, vs = [.ref a, .ref b, .ref c] ∧ SqL K H1 a xs ∧ SqL K H1 b ys ∧ SqL K H1 c zs ∧ R (Itz3 K a b c) H1
theorem pi_zip3 {X : Cx} {e e2 e3 : Expr} {ta : TA} {p pos tpos : Pos} {elts : List Expr} {kk : Nat} (hg : Gl X "zip") (hm : X.mg "zip" = none) (ha : PA X [e, e2, e3] ta)
    (hs : starEach [e, e2, e3] X.env = (false, eval e X.env) :: starEach [e2, e3] X.env := by rfl) (hpl : (backTo pos (starEach [e2, e3] X.env)).any (·.1) = false := by rfl) :
    PI X (.Tuple elts kk tpos) (.Call (.Name "zip" p) [e, e2, e3] [] pos) (iZip3 X.K ta) := by
  refine ⟨fun pins s σ H R I h => ?_⟩
  refine Call_ (ld_blt I hg hm PyProof.Rows.boot_zip (PyProof.Rows.callWith_type1 (thn (ha.run pos pins s σ H _ I h) fun us s1 ⟨vs, H1, I1, r1, q1⟩ => ?_) hs hpl))
  obtain ⟨a, b, c, xs, ys, zs, ex, hqx, hqy, hqz, q⟩ := q1
  subst ex
  obtain ⟨u1, u2, u3, rfl, r, r', r''⟩ : ∃ u1 u2 u3, us = [u1, u2, u3] ∧ RelV (.ref a) u1 ∧ RelV (.ref b) u2 ∧ RelV (.ref c) u3 := by
    rcases r1 with _ | ⟨r, _ | ⟨r', _ | ⟨r'', _ | _⟩⟩⟩
    exact ⟨_, _, _, rfl, r, r', r''⟩
  obtain rfl : u1 = Value.ref a := r
  obtain rfl : u2 = Value.ref b := r'
  obtain rfl : u3 = Value.ref c := r''
  have fresh6 : ∀ c, c ∈ [s1.heap.objs.size + 5, s1.heap.objs.size + 3, s1.heap.objs.size + 4, s1.heap.objs.size, s1.heap.objs.size + 1, s1.heap.objs.size + 2] → FpOk X pins H1 c := fun c hcm => by
    have e' : c = s1.heap.objs.size + 5 ∨ c = s1.heap.objs.size + 3 ∨ c = s1.heap.objs.size + 4 ∨ c = s1.heap.objs.size ∨ c = s1.heap.objs.size + 1 ∨ c = s1.heap.objs.size + 2 := by simpa using hcm
    have hle : s1.heap.objs.size ≤ c := by
      rcases e' with z | z | z | z | z | z
      · rw [z]; exact Nat.le_add_right _ _
      · rw [z]; exact Nat.le_add_right _ _
      · rw [z]; exact Nat.le_add_right _ _
      · rw [z]; exact Nat.le_refl _
      · rw [z]; exact Nat.le_add_right _ _
      · rw [z]; exact Nat.le_add_right _ _
    exact I1.fpOk hle (I1.hok.fresh hle)
  obtain ⟨its, rv, p1, _⟩ := I1.list hqx
  obtain ⟨its2, rv2, p2, _⟩ := I1.list hqy
  obtain ⟨its3, rv3, p3, _⟩ := I1.list hqz
  refine zip_begins3 (begins_list a its.toArray) (begins_list b its2.toArray) (begins_list c its3.toArray) p1.isList p2.isList p3.isList fun h' hz hTI hTO h1 h2 h3 hsz hk => wpAny_pyIter_zip hz ?_
  have I2 : Inv X pins σ H1 { s1 with heap := h' } := I1.kept (t' := s1.toks) hk
  have D := zip3L_of (n := s1.heap.objs.size) p1.lt p2.lt p3.lt
  exact ⟨s1.heap.objs.size + 5, [s1.heap.objs.size + 5, s1.heap.objs.size + 3, s1.heap.objs.size + 4, s1.heap.objs.size, s1.heap.objs.size + 1, s1.heap.objs.size + 2], _, _, H1, rfl, I2, turn_zip3 D,
    ⟨hz, hTI, ⟨_, _, _, hTO⟩, ⟨_, h1, rfl, rfl⟩, ⟨_, h2, rfl, rfl⟩, ⟨_, h3, rfl, rfl⟩⟩, fresh6, q⟩
def YTri (xs ys zs : Nat → Option V) : Nat → Hp → V → Hp → Prop := fun i H v H' => ∃ T x y z, v = .ref T ∧ H T = none ∧ H' = upd H T (.tup [x, y, z]) ∧ xs i = some x ∧ ys i = some y ∧ zs i = some z
theorem walk_zip3 {K : PySem.W.Frag} {a b c : Addr} {xs ys zs : List V} {n : Nat} (h1 : n ≤ xs.length) (h2 : n = ys.length) (h3 : n ≤ zs.length) :
    Walk (Itz3 K a b c) n (fun H => SqL K H a xs ∧ SqL K H b ys ∧ SqL K H c zs) (YTri (fun i => xs[i]?) (fun i => ys[i]?) (fun i => zs[i]?)) := by
  refine ⟨fun i H hi q => ⟨xs, ys, zs, xs[i], ys[i], zs[i], q.1, q.2.1, q.2.2, by simp [show i < xs.length by omega], by simp [show i < ys.length by omega], by simp [show i < zs.length by omega]⟩,
    fun _ q => ⟨xs, ys, zs, q.1, q.2.1, q.2.2, h1, by omega, h3, .inr (.inl h2)⟩,
    fun i H x H' _ q ⟨T, x1, y1, z1, g1, g2, g3, g4, g5, g6⟩ => ⟨T, _, _, _, g1, g2, g3, g4 xs q.1, g5 ys q.2.1, g6 zs q.2.2⟩⟩
end L2
namespace KG
open PySem L2
local macro_rules | `(tactic| walk_at "hp") => `(tactic| first
  | assumption
  | exact upd_same
  | (refine upd_new (by assumption) ?_; walk_at "hp")
  | (refine upd_oth (by first | assumption | (apply Ne.symm; assumption)) ?_; walk_at "hp"))
def top (i : Nat) : Stmt := PySem.Challenge.pw_headgap_k11_greatest_and_slope.main.body.getD i (.Pass ⟨0, 0, 0, 0⟩)
abbrev s_isint : Stmt := top 11
abbrev n_isint : List Str := ["value"]
theorem sc_isint : FnScope n_isint ["value"] (defScope s_isint) :=
  ⟨rfl, rfl, rfl, by decide +kernel, rfl, by decide +kernel, by decide +kernel⟩
abbrev s_aregains : Stmt := top 40
abbrev n_aregains : List Str := ["gains", "gain"]
theorem sc_aregains : FnScope n_aregains ["gains"] (defScope s_aregains) :=
  ⟨rfl, rfl, rfl, by decide +kernel, rfl, by decide +kernel, by decide +kernel⟩
abbrev s_aretold : Stmt := top 41
abbrev n_aretold : List Str := ["told", "least", "wrong", "value"]
theorem sc_aretold : FnScope n_aretold ["told", "least"] (defScope s_aretold) :=
  ⟨rfl, rfl, rfl, by decide +kernel, rfl, by decide +kernel, by decide +kernel⟩
abbrev s_beginback : Stmt := top 22
abbrev n_beginback : List Str := ["told", "begin", "gains", "many", "value", "later"]
theorem sc_beginback : FnScope n_beginback ["told", "begin", "gains"] (defScope s_beginback) :=
  ⟨rfl, rfl, rfl, by decide +kernel, rfl, by decide +kernel, by decide +kernel⟩
abbrev s_isperiod : Stmt := top 20
abbrev n_isperiod : List Str := ["tail", "climbs", "period", "parts", "value", "later", "climb"]
theorem sc_isperiod : FnScope n_isperiod ["tail", "climbs", "period"] (defScope s_isperiod) :=
  ⟨rfl, rfl, rfl, by decide +kernel, rfl, by decide +kernel, by decide +kernel⟩
abbrev s_leastperiod : Stmt := top 21
abbrev n_leastperiod : List Str := ["tail", "climbs", "many", "period"]
theorem sc_leastperiod : FnScope n_leastperiod ["tail", "climbs"] (defScope s_leastperiod) :=
  ⟨rfl, rfl, rfl, by decide +kernel, rfl, by decide +kernel, by decide +kernel⟩
abbrev s_settled : Stmt := top 23
abbrev n_settled : List Str := ["told", "gains", "many", "begin", "tail", "climbs", "period", "least", "k", "rest"]
theorem sc_settled : FnScope n_settled ["told", "gains"] (defScope s_settled) :=
  ⟨rfl, rfl, rfl, by decide +kernel, rfl, by decide +kernel, by decide +kernel⟩
abbrev s_lasting : Stmt := top 19
abbrev n_lasting : List Str := ["told", "gains", "many", "n"]
theorem sc_lasting : FnScope n_lasting ["told", "gains"] (defScope s_lasting) :=
  ⟨rfl, rfl, rfl, by decide +kernel, rfl, by decide +kernel, by decide +kernel⟩
abbrev s_lpen : Stmt := top 46
abbrev n_lpen : List Str := ["_law_script"]
theorem sc_lpen : FnScope n_lpen ["_law_script"] (defScope s_lpen) :=
  ⟨rfl, rfl, rfl, by decide +kernel, rfl, by decide +kernel, by decide +kernel⟩
abbrev s_ldraw : Stmt := top 47
abbrev n_ldraw : List Str := ["_law_pen_here", "_law_many", "_law_digit", "_law_turn", "_law_cell", "_law_great", "_law_blend"]
theorem sc_ldraw : FnScope n_ldraw ["_law_pen_here", "_law_many"] (defScope s_ldraw) :=
  ⟨rfl, rfl, rfl, by decide +kernel, rfl, by decide +kernel, by decide +kernel⟩
abbrev s_lpick : Stmt := top 48
abbrev n_lpick : List Str := ["_law_pen_here", "_law_some_here"]
theorem sc_lpick : FnScope n_lpick ["_law_pen_here", "_law_some_here"] (defScope s_lpick) :=
  ⟨rfl, rfl, rfl, by decide +kernel, rfl, by decide +kernel, by decide +kernel⟩
abbrev s_ltold : Stmt := top 49
abbrev n_ltold : List Str := ["_law_pen_here", "_law_gains", "_law_many", "_law_turn"]
theorem sc_ltold : FnScope n_ltold ["_law_pen_here"] (defScope s_ltold) :=
  ⟨rfl, rfl, rfl, by decide +kernel, rfl, by decide +kernel, by decide +kernel⟩
abbrev s_llasting : Stmt := top 52
abbrev n_llasting : List Str := ["_law_pair", "_law_told_here", "_law_gains", "_law_ends", "_law_n"]
theorem sc_llasting : FnScope n_llasting ["_law_pair"] (defScope s_llasting) :=
  ⟨rfl, rfl, rfl, by decide +kernel, rfl, by decide +kernel, by decide +kernel⟩
abbrev s_lright : Stmt := top 53
abbrev n_lright : List Str := ["_law_pair", "_law_growth", "_law_lasting_here", "_law_period", "_law_is_endless", "_law_numbers", "_law_due", "_law_best", "_law_told_here", "_law_gain", "_law_value", "_law_part"]
theorem sc_lright : FnScope n_lright ["_law_pair"] (defScope s_lright) :=
  ⟨rfl, rfl, rfl, by decide +kernel, rfl, by decide +kernel, by decide +kernel⟩
abbrev s_law : Stmt := top 54
abbrev n_law : List Str := ["_law_script", "_law_pen_here", "_law_turn", "_law_pair", "_law_low", "_law_none", "_law_some_here", "_law_value", "_law_gain"]
theorem sc_law : FnScope n_law ["_law_script"] (defScope s_law) :=
  ⟨rfl, rfl, rfl, by decide +kernel, rfl, by decide +kernel, by decide +kernel⟩
def blts : List Str := ["len", "repr", "isinstance", "abs", "int", "list", "range", "tuple", "bool", "all", "any", "max", "min", "zip"]
/-- the pen at p: its cells are ns, at most n draws are done -/
def PenAt (H : Hp) (p c : Addr) (ns : List Int) (n : Nat) : Prop :=
  ∃ (t g : Int), H p = some (.lst [.ref c, .int t, .int g]) ∧ H c = some (.lst (ns.map V.int)) ∧ c ≠ p ∧ 0 ≤ t ∧ t ≤ n
def spPen (K : PySem.W.Frag) : Sp := fun vs H Q _ => ∃ (a : Addr) (ns : List Int), vs = [.ref a] ∧
  SqL K H a (ns.map V.int) ∧ ns.length ≤ 63 ∧
  ∀ (p c : Addr) (H' : Hp), H p = none → H c = none → Same H H' → PenAt H' p c ns 0 → Q (.ref p) H'
def spDraw : Sp := fun vs H Q _ => ∃ (p c : Addr) (many : Int) (ns : List Int) (n : Nat),
  vs = [.ref p, .int many] ∧ PenAt H p c ns n ∧ ns.length ≤ 63 ∧ 1 ≤ many ∧ many < 1000000000 ∧ n < 1000000 ∧
  ∀ (r : Int) (H' : Hp), 0 ≤ r → r < many → PenAt H' p c ns (n + 1) → But p H H' → Q (.int r) H'
structure Txt (K : PySem.W.Frag) (mg : Str → Option Value) : Prop where
  nb : ∀ x ∈ blts, mg x = none
  c_gains : ∃ t, mg "MOST_GAINS" = some (.int 60 t)
  c_told : ∃ t, mg "MOST_TOLD" = some (.int 4000 t)
  d_isint : OwnD K mg "is_integer" s_isint ["value"]
  d_aregains : OwnD K mg "are_gains" s_aregains ["gains"]
  d_aretold : OwnD K mg "are_told" s_aretold ["told", "least"]
  d_beginback : OwnD K mg "begin_back" s_beginback ["told", "begin", "gains"]
  d_isperiod : OwnD K mg "is_period" s_isperiod ["tail", "climbs", "period"]
  d_leastperiod : OwnD K mg "least_period" s_leastperiod ["tail", "climbs"]
  d_settled : OwnD K mg "settled" s_settled ["told", "gains"]
  d_lasting : OwnD K mg "lasting_gains" s_lasting ["told", "gains"]
  d_pen : OwnD K mg "_law_pen" s_lpen ["_law_script"]
  d_draw : OwnD K mg "_law_draw" s_ldraw ["_law_pen_here", "_law_many"]
  d_pick : OwnD K mg "_law_pick" s_lpick ["_law_pen_here", "_law_some_here"]
  d_ltold : OwnD K mg "_law_told" s_ltold ["_law_pen_here"]
  d_llasting : OwnD K mg "_law_lasting" s_llasting ["_law_pair"]
  d_lright : OwnD K mg "_law_right" s_lright ["_law_pair"]
  d_law : OwnD K mg "law" s_law ["_law_script"]
section
variable {P : Program} {w : World} {K : PySem.W.Frag} {mg : Str → Option Value} {base : Heap}
theorem eqv_nil (ds : List PyData) : PyData.eqv (.list ds) (.list []) = ds.isEmpty := by
  cases ds <;> simp [PyData.eqv, PyData.eqvAll]
theorem shaped_ints (ns : List Int) : SeqAt.shaped (.list (ns.map PyData.int)) = true := by
  have h1 : ∀ l : List Int, PyData.canLayAll0 (l.map PyData.int) = true := by
    intro l
    induction l with
    | nil => simp [PyData.canLayAll0]
    | cons a l ih => simp [PyData.canLayAll0, PyData.canLay0, ih]
  have h2 : ∀ l : List Int, PyData.depthAll (l.map PyData.int) ≤ 1 := by
    intro l
    induction l with
    | nil => simp [PyData.depthAll]
    | cons a l ih => simp [PyData.depthAll, PyData.depth]; omega
  unfold SeqAt.shaped
  have := h2 ns
  simp [PyData.canLay0, PyData.depth, h1]
  omega
theorem kp_draw (T : Txt K mg) : Kf P w K mg base 1 "_law_draw" ["_law_pen_here", "_law_many"] spDraw := by
  refine T.d_draw.okF sc_ldraw (fun vs H Q E h => ?_) (fun f cdv A outer s H vs Q E hA hr h => ?_)
  · obtain ⟨p, c, m, ns, n, rfl, _⟩ := h
    rfl
  · obtain ⟨p, c, m, ns, n, rfl, ⟨t, g, hp, hc, ne, t0, t1⟩, hlen, m0, m1, hn, k⟩ := h
    have fin : ∀ (r t' g' : Int) (H' : Hp), 0 ≤ r → r < m → 0 ≤ t' → t' ≤ (n : Int) + 1 → H' p = some (.lst [.ref c, .int t', .int g']) →
        But p H H' → Q (.int r) H' := fun r t' g' H' r0 r1 a b e fr =>
      k r H' r0 r1 ⟨t', g', e, fr c ne _ hc, ne, a, by omega⟩ fr
    refine ⟨_, (pss_cons (ps_if (pt_cmpR op_gt (pe_ix (ix_list : IxR _ (rIxL K)) (pv 0) (pe_int) (fun _ _ => rfl)) (pe_int) (nomark _))
 (pss_cons (ps_set (i := 2) sc_ldraw.nd rfl (Or.inl rfl) (pe_op op_modW (pe_callTy call_intI (by rfl) (T.nb _ (by decide)) (by decide +kernel) (pa_cons (pe_ix (ix_list : IxR _ (rIxL K)) (pv 0) (pe_int) (fun _ _ => rfl)) pa_nil)) (pv 1)))
 (pss_cons (ps_asg (pe_op op_divW (pe_callTy call_intI (by rfl) (T.nb _ (by decide)) (by decide +kernel) (pa_cons (pe_ix (ix_list : IxR _ (rIxL K)) (pv 0) (pe_int) (fun _ _ => rfl)) pa_nil)) (pv 1)) (pg_sub (pv 0) (pe_int) set_list))
 (pss_one (ps_ret (pv 2))))) pss_nil)
 (pss_cons (ps_set (i := 3) sc_ldraw.nd rfl (Or.inl rfl) (pe_ix (ix_list : IxR _ (rIxL K)) (pv 0) (pe_int) (fun _ _ => rfl)))
 (pss_cons (ps_asg (pe_op op_add (pv 3) (pe_int)) (pg_sub (pv 0) (pe_int) set_list))
 (pss_cons (ps_set (i := 4) sc_ldraw.nd rfl (Or.inl rfl) (pe_op op_add (pe_op op_mulW' (pe_int) (pv 3)) (pe_int)))
 (pss_mid (ps_if (pt_cmpR (op_neD hr.units) (pe_ix (ix_list : IxR _ (rIxL K)) (pv 0) (pe_int) (fun _ _ => rfl)) (pe_lst pa_nil) (nomark _))
 (pss_one (ps_set (i := 4) sc_ldraw.nd rfl (Or.inl rfl) (pe_ix (ix_list : IxR _ (rIxL K)) (pe_ix (ix_list : IxR _ (rIxL K)) (pv 0) (pe_int) (fun _ _ => rfl)) (pe_op op_modW (pe_callTy call_intI (by rfl) (T.nb _ (by decide)) (by decide +kernel) (pa_cons (pv 3) pa_nil)) (pe_callB call_len (by rfl) (T.nb _ (by decide)) PySem.boot_len (pa_cons (pe_ix (ix_list : IxR _ (rIxL K)) (pv 0) (pe_int) (fun _ _ => rfl)) pa_nil))) (fun _ _ => rfl)))) pss_nil)
 (pss_mid (ps_if (PW.pt (pw_and (pt_cmpR op_lt (pv 3) (pe_callB call_len (by rfl) (T.nb _ (by decide)) PySem.boot_len (pa_cons (pe_ix (ix_list : IxR _ (rIxL K)) (pv 0) (pe_int) (fun _ _ => rfl)) pa_nil)) (nomark _)) (pw_and1 (pt_cmpR op_ge (pe_callB call_abs (by rfl) (T.nb _ (by decide)) (by decide +kernel) (pa_cons (pv 4) pa_nil)) (pe_op op_pow (pe_int) (pe_int)) (nomark _)))))
 (pss_cons (ps_set (i := 5) sc_ldraw.nd rfl (Or.inl rfl) (pe_op op_add (pe_op op_mulW' (pe_int) (pe_op op_sub (pe_callB call_abs (by rfl) (T.nb _ (by decide)) (by decide +kernel) (pa_cons (pv 4) pa_nil)) (pe_op op_pow (pe_int) (pe_int)))) (pe_callTy call_intB (by rfl) (T.nb _ (by decide)) (by decide +kernel) (pa_cons (pe_cmpR op_lt (pv 4) (pe_int) (nomark _)) pa_nil))))
 (pss_cons (ps_asg (pe_op op_divW (pe_callTy call_intI (by rfl) (T.nb _ (by decide)) (by decide +kernel) (pa_cons (pv 5) pa_nil)) (pv 1)) (pg_sub (pv 0) (pe_int) set_list))
 (pss_one (ps_ret (pe_op op_modW (pe_callTy call_intI (by rfl) (T.nb _ (by decide)) (by decide +kernel) (pa_cons (pv 5) pa_nil)) (pv 1)))))) pss_nil)
 (pss_cons (ps_set (i := 6) sc_ldraw.nd rfl (Or.inl rfl) (pe_op op_modW (pe_callTy call_intI (by rfl) (T.nb _ (by decide)) (by decide +kernel) (pa_cons (pe_op op_powW (pe_op op_add (pe_op op_add (pe_op op_modW (pe_callTy call_intI (by rfl) (T.nb _ (by decide)) (by decide +kernel) (pa_cons (pv 4) pa_nil)) (pe_int)) (pe_op op_mulW' (pe_int) (pv 3))) (pe_int)) (pe_int)) pa_nil)) (pe_int)))
 (pss_cons (ps_set (i := 6) sc_ldraw.nd rfl (Or.inl rfl) (pe_op op_modW (pe_callTy call_intI (by rfl) (T.nb _ (by decide)) (by decide +kernel) (pa_cons (pe_op op_powW (pe_op op_add (pe_op op_add (pe_op op_mulW' (pv 6) (pe_op op_add (pe_op op_mulW' (pe_int) (pv 3)) (pe_int))) (pe_op op_mulW' (pe_op op_mulW' (pe_int) (pv 3)) (pv 3))) (pe_int)) (pe_int)) pa_nil)) (pe_int)))
 (pss_one (ps_ret (pe_op op_modW (pe_callTy call_intI (by rfl) (T.nb _ (by decide)) (by decide +kernel) (pa_cons (pe_op op_divW (pv 6) (pe_int)) pa_nil)) (pv 1)))))))))))), ?_⟩
    refine ⟨_, rfl, _, _, _, _, rfl, rfl, SqL.of (by walk_at "hp"), rfl, _, _, rfl, rfl, _, rfl, ?_⟩
    refine ite2 (fun c1 => ?_) (fun c1 => ?_)
    · -- a digit of a great cell
      refine ⟨_, rfl, _, _, _, _, rfl, rfl, SqL.of (by walk_at "hp"), rfl, _, rfl, _, rfl, _, _, rfl, rfl, by omega, fun r r0 r1 => ?_⟩
      refine ⟨_, rfl, _, _, _, _, rfl, rfl, SqL.of (by walk_at "hp"), rfl, _, rfl, _, rfl, _, _, rfl, rfl, by omega, by omega, fun q z _ _ _ => ?_⟩
      refine ⟨_, rfl, _, _, _, _, rfl, rfl, by walk_at "hp", rfl, _, rfl, ?_⟩
      exact fin r t q _ r0 r1 t0 (by omega) upd_same (fun b hb o e => upd_oth hb e)
    · refine ⟨_, rfl, _, _, _, _, rfl, rfl, SqL.of (by walk_at "hp"), rfl, ?_⟩
      refine ⟨_, rfl, _, _, rfl, rfl, _, rfl, _, _, _, _, rfl, rfl, by walk_at "hp", rfl, ?_⟩
      refine ⟨_, rfl, _, _, rfl, rfl, .inl (by constructor <;> decide), fun z hz => ?_⟩
      refine ⟨_, _, rfl, rfl, ?_⟩
      have hp1 : ∀ u : HO, upd H p u p = some u := fun u => upd_same
      have hc1 : ∀ u : HO, upd H p u c = some (.lst (ns.map V.int)) := fun u => upd_oth ne hc
      have fr1 : ∀ u : HO, But p H (upd H p u) := fun u b hb o e => upd_oth hb e
      -- behind the first cell's choice: some int
      let σ2 : Int → St := fun v => [some (.ref p), some (.int m), none, some (.int t), some (.int v), none, none]
      refine ⟨fun σ' H' => (∃ v, σ' = σ2 v) ∧ H' p = some (.lst [.ref c, .int (t + 1), .int g]) ∧ But p H H', ?_, ?_⟩
      · refine ⟨_, rfl, _, _, _, _, rfl, rfl, SqL.of (hp1 _), rfl, by decide, fun l hl => ?_⟩
        have hp2 : ∀ u : HO, upd (upd H p (.lst [.ref c, .int (t + 1), .int g])) l u p = some (.lst [.ref c, .int (t + 1), .int g]) :=
          fun u => upd_new hl (hp1 _)
        have hc2 : ∀ u : HO, upd (upd H p (.lst [.ref c, .int (t + 1), .int g])) l u c = some (.lst (ns.map V.int)) :=
          fun u => upd_new hl (hc1 _)
        have fr2 : ∀ u : HO, But p H (upd (upd H p (.lst [.ref c, .int (t + 1), .int g])) l u) := fun u b hb o e => upd_new hl (fr1 _ b hb o e)
        refine ⟨_, _, .lst (SqL.of (hc2 _)) (dp_ints ns), .lst (SqL.of upd_same) .nil, shaped_ints ns, rfl, _, rfl, ?_⟩
        rw [eqv_nil]
        refine ite2 (fun c2 => ?_) (fun c2 => ?_)
        · have hne : 0 < (ns.length : Int) := by
            cases ns with
            | nil => simp at c2
            | cons a l => simp
          refine ⟨_, rfl, _, _, _, _, rfl, rfl, SqL.of (hp2 _), rfl, _, rfl, _, rfl, _, rfl, _, _, _, _, rfl, rfl, SqL.of (hp2 _), rfl, ?_⟩
          refine ⟨_, _, rfl, len_lst (hc2 _), _, _, rfl, rfl, ?_, fun r r0 r1 => ?_⟩
          · rw [List.length_map]; exact hne
          · rw [List.length_map] at r1
            obtain ⟨x, hx⟩ := at_map r0 r1
            exact ⟨_, _, _, _, rfl, rfl, SqL.of (hc2 _), hx, ⟨x, rfl⟩, hp2 _, fr2 _⟩
        · exact ⟨⟨_, rfl⟩, hp2 _, fr2 _⟩
      · rintro σ' H' ⟨⟨v, rfl⟩, hp', fr'⟩
        have hc' : H' c = some (.lst (ns.map V.int)) := fr' c ne _ hc
        refine ⟨fun σ1 H1 => σ1 = σ2 v ∧ H1 p = some (.lst [.ref c, .int (t + 1), .int g]) ∧ But p H H1, ?_, ?_⟩
        · refine ⟨_, rfl, _, rfl, _, _, _, _, rfl, rfl, SqL.of hp', rfl, _, _, rfl, len_lst hc', _, _, rfl, rfl, _, rfl, ?_⟩
          refine ite2 (fun c3 => ?_) (fun c3 => iteF ⟨rfl, hp', fr'⟩)
          refine ⟨_, rfl, _, rfl, _, _, rfl, rfl, ⟨by decide, by decide, by decide⟩, _, _, rfl, rfl, _, rfl, ?_⟩
          refine ite2 (fun c4 => ?_) (fun c4 => ⟨rfl, hp', fr'⟩)
          refine ⟨_, rfl, _, rfl, _, _, rfl, rfl, ⟨by decide, by decide, by decide⟩, _, _, rfl, rfl, _, _, rfl, rfl, .inl (by constructor <;> decide), fun z1 hz1 => ?_⟩
          refine ⟨_, rfl, _, _, rfl, rfl, _, rfl, fun i i0 i1 => ⟨_, _, rfl, rfl, ?_⟩⟩
          refine ⟨_, rfl, _, rfl, _, rfl, _, _, rfl, rfl, by omega, by omega, fun q z2 _ _ _ => ?_⟩
          refine ⟨_, rfl, _, _, _, _, rfl, rfl, by walk_at "hp", rfl, ?_⟩
          refine ⟨_, rfl, _, rfl, _, rfl, _, _, rfl, rfl, by omega, fun r r0 r1 => ?_⟩
          exact fin r (t + 1) q _ r0 r1 (by omega) (by omega) upd_same (fun b hb o e => upd_oth hb (fr' b hb o e))
        · rintro σ1 H1 ⟨rfl, hp1, fr1⟩
          refine ⟨_, rfl, _, rfl, _, _, rfl, rfl, by decide, fun r r0 r1 => ?_⟩
          refine ⟨_, rfl, _, _, rfl, rfl, .inl (by constructor <;> decide), fun z1 hz1 => ?_⟩
          refine ⟨_, _, rfl, rfl, _, _, rfl, rfl, _, _, rfl, rfl, by decide, by decide, by omega, fun z2 => ?_⟩
          refine ⟨_, rfl, _, _, rfl, rfl, by decide, fun b b0 b1 => ?_⟩
          refine ⟨_, rfl, _, rfl, _, _, rfl, rfl, .inl (by constructor <;> decide), fun z3 hz3 => ?_⟩
          refine ⟨_, _, rfl, rfl, _, _, rfl, rfl, .inl (by constructor <;> omega), fun z4 hz4 => ?_⟩
          refine ⟨_, rfl, _, _, rfl, rfl, .inl (by constructor <;> decide), fun z5 hz5 => ?_⟩
          refine ⟨_, rfl, _, _, rfl, rfl, .inl (by constructor <;> omega), fun z6 hz6 => ?_⟩
          have z40 : 0 ≤ z4 ∧ z4 ≤ 2147483647 * 2010000 := by
            subst hz4
            have a1 : 0 ≤ z3 + 647 := by omega
            have a2 : z3 + 647 ≤ 2010000 := by omega
            exact ⟨Int.mul_nonneg b0 a1, Int.le_trans (Int.mul_le_mul_of_nonneg_right (by omega) a1) (Int.mul_le_mul_of_nonneg_left a2 (by decide))⟩
          have z60 : 0 ≤ z6 ∧ z6 ≤ 52194 * 1000000 * 1000000 := by
            subst hz6
            have a1 : 0 ≤ t := t0
            have a2 : t ≤ 1000000 := by omega
            have a3 : 0 ≤ z5 := by omega
            exact ⟨Int.mul_nonneg a3 a1, Int.le_trans (Int.mul_le_mul_of_nonneg_right (by omega) a1) (Int.mul_le_mul_of_nonneg_left a2 (by decide))⟩
          refine ⟨_, _, rfl, rfl, _, _, rfl, rfl, _, _, rfl, rfl, by decide, by decide, by omega, fun z7 => ?_⟩
          refine ⟨_, rfl, _, _, rfl, rfl, by decide, fun d d0 d1 => ?_⟩
          refine ⟨_, rfl, _, _, rfl, rfl, by decide, by decide, fun q z8 _ _ _ => ?_⟩
          refine ⟨_, rfl, _, rfl, _, _, rfl, rfl, by omega, fun r2 r20 r21 => ?_⟩
          exact fin r2 (t + 1) g _ r20 r21 (by omega) (by omega) hp1 fr1
theorem kp_pen (T : Txt K mg) : Kf P w K mg base 1 "_law_pen" ["_law_script"] (spPen K) := by
  refine T.d_pen.okF sc_lpen (fun vs H Q E h => ?_) (fun f cdv A outer s H vs Q E hA hr h => ?_)
  · obtain ⟨a, ns, rfl, _⟩ := h
    rfl
  · obtain ⟨a, ns, rfl, hs, hlen, k⟩ := h
    refine ⟨_, (pss_one (ps_ret (pe_lst (pa_cons (pe_callTy call_list_of (by rfl) (T.nb _ (by decide)) (by decide +kernel) (pa_cons (pe_slice (sl_list : SlR _ (rSlL K)) (pv 0) po_none (po_some (pe_int))) pa_nil)) (pa_cons (pe_int) (pa_cons (pe_int) pa_nil)))))), ?_⟩
    refine ⟨_, rfl, _, rfl, _, _, rfl, hs, fun q hq => ?_⟩
    refine ⟨_, _, rfl, .inl (SqL.of upd_same), fun c hc => ?_⟩
    refine ⟨(by show 3 ≤ sizeLine; decide), fun p hp => ?_⟩
    have e : cutV (ns.map V.int) none (some 63) = ns.map V.int := by
      have l : (ns.map V.int).length ≤ 63 := by rw [List.length_map]; exact hlen
      have q : cutV (ns.map V.int) none (some 63) = ((ns.map V.int).drop (HT.sIx (ns.map V.int).length 0 none)).take
          (HT.sIx (ns.map V.int).length (ns.map V.int).length (some ((63 : Nat) : Int)) - HT.sIx (ns.map V.int).length 0 none) := rfl
      rw [q, HT.sIx_nat, HT.sIx_none, List.drop_zero]
      exact List.take_of_length_le (by omega)
    have hH : H p = none := (Same.trans (Same.new hq) (Same.new hc)).free hp
    refine k p c _ hH ((Same.new hq).free hc) ((Same.new hq).trans ((Same.new hc).trans (Same.new hp))) ⟨0, 0, upd_same, ?_, ?_, by omega, by omega⟩
    · refine upd_new hp ?_
      rw [upd_same, e]
    · intro z
      rw [z, upd_same] at hp
      cases hp
def spPick : Sp := fun vs H Q _ => ∃ (p c l : Addr) (xs : List V) (ns : List Int) (n : Nat),
  vs = [.ref p, .ref l] ∧ PenAt H p c ns n ∧ ns.length ≤ 63 ∧ H l = some (.lst xs) ∧ l ≠ p ∧ 0 < xs.length ∧
  xs.length < 1000000 ∧ n < 1000000 ∧
  ∀ (v : V) (H' : Hp), v ∈ xs → PenAt H' p c ns (n + 1) → But p H H' → Q v H'
theorem kp_pick (T : Txt K mg) : Kf P w K mg base 2 "_law_pick" ["_law_pen_here", "_law_some_here"] spPick := by
  refine T.d_pick.okF sc_lpick (fun vs H Q E h => ?_) (fun f cdv A outer s H vs Q E hA hr h => ?_)
  · obtain ⟨p, c, l, xs, ns, n, rfl, _⟩ := h
    rfl
  · obtain ⟨p, c, l, xs, ns, n, rfl, hp, hlen, hl, ne, h0, h1, hn, k⟩ := h
    refine ⟨_, (pss_one (ps_ret (pe_ix (ix_list : IxR _ (rIxL K)) (pv 1) (pe_kf (kp_draw T) hA hr (by rfl) (pa_cons (pv 0) (pa_cons (pe_callB call_len (by rfl) (T.nb _ (by decide)) PySem.boot_len (pa_cons (pv 1) pa_nil)) pa_nil))) (fun _ _ => rfl)))), ?_⟩
    refine ⟨_, rfl, _, rfl, _, rfl, _, _, rfl, len_lst hl, ?_⟩
    refine ⟨p, c, _, ns, n, rfl, hp, hlen, by omega, by omega, hn, fun r H' r0 r1 hp' hb => ?_⟩
    obtain ⟨x, hx, hm⟩ := at_in (xs := xs) r0 (by omega)
    exact ⟨_, _, _, _, rfl, rfl, SqL.of (hb l ne _ hl), hx, k x H' hm hp' hb⟩
/-- a told value -/
def vO : Option Int → V
  | none => .non
  | some i => .int i
def spIsInt : Sp := fun vs H Q _ => ∃ i : Int, vs = [.int i] ∧ Q (.bl true) H
theorem kp_is_integer (T : Txt K mg) : Kf P w K mg base 1 "is_integer" ["value"] spIsInt := by
  refine T.d_isint.okF sc_isint (fun vs H Q E h => ?_) (fun f cdv A outer s H vs Q E hA hr h => ?_)
  · obtain ⟨i, rfl, _⟩ := h
    rfl
  · obtain ⟨i, rfl, k⟩ := h
    refine ⟨_, (pss_one (ps_ret ((pe_and (pe_callB call_isi (by rfl) (T.nb _ (by decide)) (by decide +kernel) (pa_cons (pv 0) (pa_cons (pe_bltn (v := .ty "int") (by rfl) (T.nb _ (by decide)) (by decide +kernel) rfl) pa_nil))) (pe_one (pe_not (pe_callB call_isi (by rfl) (T.nb _ (by decide)) (by decide +kernel) (pa_cons (pv 0) (pa_cons (pe_bltn (v := .ty "bool") (by rfl) (T.nb _ (by decide)) (by decide +kernel) rfl) pa_nil))))))))), ?_⟩
    refine ⟨_, rfl, .int i, _, _, _, true, rfl, .ty "int", .base (.int i), kit_ty (by decide +kernel), true, rfl, iteT ?_⟩
    refine ⟨_, rfl, .int i, _, _, _, false, rfl, .ty "bool", .base (.int i), kit_ty (by decide +kernel), false, rfl, ?_⟩
    exact k
def spGains (K : PySem.W.Frag) : Sp := fun vs H Q _ => ∃ (a : Addr) (gs : List Int), vs = [.ref a] ∧
  SqS K H a (gs.map V.int) ∧ 1 ≤ gs.length ∧ gs.length ≤ 60 ∧ ∀ H', Same H H' → Q (.bl true) H'
theorem kp_are_gains (T : Txt K mg) : Kf P w K mg base 2 "are_gains" ["gains"] (spGains K) := by
  refine T.d_aregains.okF sc_aregains (fun vs H Q E h => ?_) (fun f cdv A outer s H vs Q E hA hr h => ?_)
  · obtain ⟨a, gs, rfl, _⟩ := h
    rfl
  · obtain ⟨a, gs, rfl, hs, l1, l2, k⟩ := h
    refine ⟨_, (pss_cons (ps_if (PW.pt (pw_or (pt_not (pt_val (pe_callB call_isiT (by rfl) (T.nb _ (by decide)) (by decide +kernel) (pa_cons (pv 0) (pa_cons (pe_tup (pa_cons (pe_bltn (v := .ty "list") (by rfl) (T.nb _ (by decide)) (by decide +kernel) rfl) (pa_cons (pe_bltn (v := .ty "tuple") (by rfl) (T.nb _ (by decide)) (by decide +kernel) rfl) pa_nil))) pa_nil))))) (pw_or (pt_cmpR op_lt (pe_callB call_len (by rfl) (T.nb _ (by decide)) PySem.boot_len (pa_cons (pv 0) pa_nil)) (pe_int) (nomark _)) (pw_or1 (pt_cmpR op_gt (pe_callB call_len (by rfl) (T.nb _ (by decide)) PySem.boot_len (pa_cons (pv 0) pa_nil)) (pe_cst (by rfl) T.c_gains) (nomark _))))))
 (pss_one (ps_ret (pe_bl))) pss_nil)
 (pss_one (ps_ret (pe_callB (cr_all rfl) (by rfl) (T.nb _ (by decide)) (by decide +kernel) (pa_cons (pe_lc (own := [("gain", 1)]) (g := gName 1) (tt := tYes) rfl sc_aregains.nd (pi_seq (pv 0)) (blkOk_by (N := n_aregains) (sc := defScope s_aregains) (by decide +kernel)) (fun _ _ _ _ _ => pg_name (i := 1) sc_aregains.nd rfl (Or.inl rfl)) (fun _ _ _ _ _ => pts_nil) (fun _ _ _ _ _ => (pe_kf (kp_is_integer T) hA hr (by rfl) (pa_cons (pv 1) pa_nil)))) pa_nil))))), ?_⟩
    refine ⟨_, rfl, (by show 2 ≤ sizeLine; decide), fun p hp => ?_⟩
    have s1 : Same H (upd H p (.tup [.ty "list", .ty "tuple"])) := Same.new hp
    have hs1 := hs.new s1
    obtain ⟨ty, ht, tyx⟩ := hs1.ty
    refine ⟨.ref a, p, _, _, _, true, rfl, upd_same, .cons (.ty _) (.cons (.ty _) .nil), tyx, kit_lt ht, _, rfl, iteF ?_⟩
    refine ⟨_, rfl, _, _, rfl, hs1.len, _, _, rfl, rfl, _, rfl, ?_⟩
    rw [List.length_map, decide_eq_false (by omega)]
    refine iteF ?_
    refine ⟨_, rfl, _, _, rfl, hs1.len, _, _, rfl, rfl, _, rfl, ?_⟩
    rw [List.length_map, decide_eq_false (by omega)]
    refine iteF ?_
    dsimp only [tNext, tRet, tCB, tCons]
    refine tlc_seq (r := fun _ _ => some (.bl true)) hs1 ?_ (fun R h => ⟨_, rfl, h⟩) ?_ ?_
    · rw [List.length_map]
      exact Nat.le_trans l2 (by decide)
    · intro i x H' hx _ Ky Kn hy _
      obtain ⟨n, hn, rfl⟩ : ∃ n, gs[i]? = some n ∧ x = .int n := by
        rw [List.getElem?_map] at hx
        cases e : gs[i]? with
        | none => rw [e] at hx; cases hx
        | some n => rw [e] at hx; exact ⟨n, rfl, (Option.some.inj hx).symm⟩
      refine ⟨rfl, yes_run ?_⟩
      exact ⟨_, rfl, n, rfl, hy _ rfl⟩
    · intro D hD
      have e := all_true (gs.map V.int)
      refine ⟨D, ((gs.map V.int).map fun _ => true), rfl, ?_, ?_⟩
      · rw [e]
        exact SqL.of upd_same
      · have q : ((gs.map V.int).map fun _ => true).all id = true := by simp
        show Q (.bl (((gs.map V.int).map fun _ => true).all id)) _
        rw [q]
        exact k _ (s1.trans (Same.new hD))
theorem opt_at {ts : List (Option Int)} {i : Nat} {x : V} (hx : (ts.map vO)[i]? = some x) : ∃ o, ts[i]? = some o ∧ x = vO o := by
  rw [List.getElem?_map] at hx
  cases e : ts[i]? with
  | none => rw [e] at hx; cases hx
  | some n => rw [e] at hx; exact ⟨n, rfl, (Option.some.inj hx).symm⟩
theorem fm_none : ∀ (xs : List V) (k : Nat), fm (fun _ _ => none) k xs = []
  | [], _ => rfl
  | x :: xs, k => by
    unfold fm
    rw [fm_none xs (k + 1)]
    rfl
def spTold (K : PySem.W.Frag) : Sp := fun vs H Q _ => ∃ (a : Addr) (ts : List (Option Int)) (least : Int), vs = [.ref a, .int least] ∧
  SqS K H a (ts.map vO) ∧ least ≤ ts.length ∧ ts.length ≤ 100000 ∧ ∀ H', Same H H' → Q (.bl true) H'
theorem kp_are_told (T : Txt K mg) : Kf P w K mg base 2 "are_told" ["told", "least"] (spTold K) := by
  refine T.d_aretold.okF sc_aretold (fun vs H Q E h => ?_) (fun f cdv A outer s H vs Q E hA hr h => ?_)
  · obtain ⟨a, ts, l, rfl, _⟩ := h
    rfl
  · obtain ⟨a, ts, l, rfl, hs, l1, l2, k⟩ := h
    refine ⟨_, (pss_cons (ps_if (PW.pt (pw_or (pt_not (pt_val (pe_callB call_isiT (by rfl) (T.nb _ (by decide)) (by decide +kernel) (pa_cons (pv 0) (pa_cons (pe_tup (pa_cons (pe_bltn (v := .ty "list") (by rfl) (T.nb _ (by decide)) (by decide +kernel) rfl) (pa_cons (pe_bltn (v := .ty "tuple") (by rfl) (T.nb _ (by decide)) (by decide +kernel) rfl) pa_nil))) pa_nil))))) (pw_or1 (pt_cmpR op_lt (pe_callB call_len (by rfl) (T.nb _ (by decide)) PySem.boot_len (pa_cons (pv 0) pa_nil)) (pv 1) (nomark _)))))
 (pss_one (ps_ret (pe_bl))) pss_nil)
 (pss_cons (ps_setLc (i := 2) (own := [("value", 3)]) (g := gName 3) rfl sc_aretold.nd rfl rfl (sw_true rfl rfl rfl (by decide +kernel)) (pi_seq (pv 0)) (blkOk_by (N := n_aretold) (sc := defScope s_aretold) (by decide +kernel)) (fun _ _ _ _ _ => pg_name (i := 3) sc_aretold.nd rfl (Or.inl rfl)) (fun _ _ _ _ _ => (pts_one (PW.pt (pw_and (pt_cmpR op_notN (pv 3) (pe_non) (nomark _)) (pw_and1 (PW.pt (pw_or (pt_cmpR op_isIB (pv 3) (pe_bl) (nomark _)) (pw_or (pt_cmpR op_isIB (pv 3) (pe_bl) (nomark _)) (pw_or1 (pt_not (pt_val (pe_callB (id := "isinstance") (r := rIsi K) call_isi (by rfl) (T.nb _ (by decide)) (by decide +kernel) (pa_cons (pv 3) (pa_cons (pe_bltn (v := .ty "int") (by rfl) (T.nb _ (by decide)) (by decide +kernel) rfl) pa_nil)))))))))))))) (fun _ _ _ _ _ => (pv 3)))
 (pss_one (ps_ret (pe_cmpR op_eq (pe_callB call_len (by rfl) (T.nb _ (by decide)) PySem.boot_len (pa_cons (pv 2) pa_nil)) (pe_int) (nomark _)))))), ?_⟩
    refine ⟨_, rfl, (by show 2 ≤ sizeLine; decide), fun p hp => ?_⟩
    have s1 : Same H (upd H p (.tup [.ty "list", .ty "tuple"])) := Same.new hp
    have hs1 := hs.new s1
    obtain ⟨ty, ht, tyx⟩ := hs1.ty
    refine ⟨.ref a, p, _, _, _, true, rfl, upd_same, .cons (.ty _) (.cons (.ty _) .nil), tyx, kit_lt ht, _, rfl, iteF ?_⟩
    refine ⟨_, rfl, _, _, rfl, hs1.len, _, rfl, _, _, rfl, rfl, _, rfl, ?_⟩
    rw [List.length_map, decide_eq_false (by omega)]
    refine iteF ?_
    dsimp only [tNext, tRet, tSeq, tAsg]
    refine tlc_seq (r := fun _ _ => none) hs1 ?_ (fun R h => ⟨_, rfl, h⟩) ?_ ?_
    · rw [List.length_map]
      exact Nat.le_trans l2 (by decide)
    · intro i x H' hx _ Ky Kn hy hn
      obtain ⟨o, ho, rfl⟩ := opt_at hx
      cases o with
      | none =>
        refine ⟨rfl, ?_⟩
        exact ⟨_, rfl, rfl, _, rfl, iteF (hn rfl)⟩
      | some n =>
        refine ⟨rfl, ?_⟩
        refine ⟨_, rfl, rfl, _, rfl, iteT ?_⟩
        refine ⟨_, rfl, n, true, rfl, rfl, _, rfl, iteF ?_⟩
        refine ⟨_, rfl, n, false, rfl, rfl, _, rfl, iteF ?_⟩
        refine ⟨_, rfl, .int n, _, _, _, true, rfl, .ty "int", .base (.int n), kit_ty (by decide +kernel), true, rfl, iteF ?_⟩
        exact hn rfl
    · intro D hD
      rw [fm_none]
      refine ⟨_, rfl, _, _, rfl, len_lst upd_same, rfl, ?_⟩
      exact k _ (s1.trans (Same.new hD))
end
end KG
namespace KG
open PySem L2
section
variable {P : Program} {w : World} {K : PySem.W.Frag} {mg : Str → Option Value} {base : Heap}
def leadsB (v l : Option Int) (g : Int) : Bool := match v with
  | none => l.isNone
  | some i => decide (l = some (i + g))
/-- the values of a list, from each place on -/
def tv (t : List (Option Int)) (k : Nat) : Option Int := t.getD k none
def sv (s : List Int) (k : Nat) : Int := s.getD k 0
theorem at_tv {t : List (Option Int)} {i : Int} {k : Nat} (e : i = (k : Int)) (h : k < t.length) : atI (t.map vO) i = some (vO (tv t k)) := by
  subst e
  unfold atI ixN
  rw [List.length_map, if_pos (by omega), if_pos (by omega)]
  simp [tv, List.getElem?_eq_getElem h, List.getD_eq_getElem?_getD]
theorem at_sv {t : List Int} {i : Int} {k : Nat} (e : i = (k : Int)) (h : k < t.length) : atI (t.map V.int) i = some (.int (sv t k)) := by
  subst e
  unfold atI ixN
  rw [List.length_map, if_pos (by omega), if_pos (by omega)]
  simp [sv, List.getElem?_eq_getElem h, List.getD_eq_getElem?_getD]
/-- the k-th look of is_period -/
def PerAt (t : List (Option Int)) (s : List Int) (p : Nat) (parts : Int) (k : Nat) : Prop :=
  ((tv t k = none) ↔ (tv t (k + p) = none)) ∧ sv s k = sv s (k + p) ∧
    ∀ i j, tv t k = some i → tv t (k + p) = some j → (j - i) * parts = sv s k
def IsPer (t : List (Option Int)) (s : List Int) (p : Nat) : Prop :=
  ∀ k, k < t.length - p → PerAt t s p ((t.length / p : Nat) : Int) k
def spPer (K : PySem.W.Frag) : Sp := fun vs H Q _ => ∃ (a b : Addr) (t : List (Option Int)) (s : List Int) (p : Nat),
  vs = [.ref a, .ref b, .int p] ∧ SqL K H a (t.map vO) ∧ SqL K H b (s.map V.int) ∧ t.length = s.length ∧ 0 < p ∧
  p ≤ t.length ∧ t.length ≤ 100000 ∧ ∀ (r : Bool) (H' : Hp), Same H H' → (r = true ↔ IsPer t s p) → Q (.bl r) H'
theorem div_q {n p : Nat} {q r : Int} (e : (n : Int) = p * q + r) (r0 : 0 ≤ r) (r1 : r < p) : q = ((n / p : Nat) : Int) := by
  have h : (n : Int) / (p : Int) = q := by
    rw [e, Int.add_comm, Int.add_mul_ediv_left _ _ (by omega), Int.ediv_eq_zero_of_lt r0 r1, Int.zero_add]
  rw [← h]
  rfl
theorem drop_take {s : List Int} {p : Nat} (hp : p ≤ s.length) : s.drop p = s.take (s.length - p) ↔ ∀ k, k < s.length - p → sv s k = sv s (k + p) := by
  constructor
  · intro h k hk
    have h1 : (s.drop p)[k]? = (s.take (s.length - p))[k]? := by rw [h]
    rw [List.getElem?_drop, List.getElem?_take, if_pos hk] at h1
    unfold sv
    rw [List.getD_eq_getElem?_getD, List.getD_eq_getElem?_getD, ← h1, Nat.add_comm]
  · intro h
    apply List.ext_getElem?
    intro k
    rw [List.getElem?_drop, List.getElem?_take]
    by_cases hk : k < s.length - p
    · rw [if_pos hk]
      have := h k hk
      unfold sv at this
      rw [List.getD_eq_getElem?_getD, List.getD_eq_getElem?_getD, Nat.add_comm, List.getElem?_eq_getElem (show k < s.length by omega), List.getElem?_eq_getElem (show p + k < s.length by omega)] at this
      rw [List.getElem?_eq_getElem (show p + k < s.length by omega), List.getElem?_eq_getElem (show k < s.length by omega)]
      simp only [Option.getD_some] at this
      rw [this]
    · rw [if_neg hk, List.getElem?_eq_none (by omega)]
theorem eqv_ints (ns ms : List Int) : PyData.eqv (.list (ns.map PyData.int)) (.list (ms.map PyData.int)) = decide (ns = ms) := by
  unfold PyData.eqv
  exact PySem.W.ked_eqvAll ns ms
theorem sqL_same {H H' : Hp} {a : Addr} {xs : List V} (h : SqL K H a xs) (s : Same H H') : SqL K H' a xs := by
  rcases h with (h | ⟨o, h⟩) | h
  · exact .inl (.inl (s _ _ h))
  · exact .inl (.inr ⟨o, s _ _ h⟩)
  · exact .inr h
theorem tv_drop (t : List (Option Int)) (b i : Nat) : tv (t.drop b) i = tv t (b + i) := by
  simp [tv, List.getD_eq_getElem?_getD]
theorem tv_at {t : List (Option Int)} {i : Nat} {x : V} (h : (t.map vO)[i]? = some x) : x = vO (tv t i) := by
  obtain ⟨o, ho, rfl⟩ := opt_at h
  unfold tv
  rw [List.getD_eq_getElem?_getD, ho]
  rfl
theorem sv_at {s : List Int} {i : Nat} {x : V} (h : (s.map V.int)[i]? = some x) : x = .int (sv s i) := by
  rw [List.getElem?_map] at h
  cases e : s[i]? with
  | none => rw [e] at h; cases h
  | some n =>
    rw [e] at h
    unfold sv
    rw [List.getD_eq_getElem?_getD, e]
    exact (Option.some.inj h).symm
theorem kp_is_period (T : Txt K mg) : Kf P w K mg base 1 "is_period" ["tail", "climbs", "period"] (spPer K) := by
  refine T.d_isperiod.okF sc_isperiod (fun vs H Q E h => ?_) (fun f cdv A outer s H vs Q E hA hr h => ?_)
  · obtain ⟨a, b, t, sg, p, rfl, _⟩ := h
    rfl
  · obtain ⟨a, b, t, sg, p, rfl, ha, hb, hl, p0, p1, big, k⟩ := h
    refine ⟨_, (pss_cons (ps_if (pt_cmpR (op_neD hr.units) (pe_slice (sl_list : SlR _ (rSlL K)) (pv 1) (po_some (pv 2)) po_none) (pe_slice (sl_list : SlR _ (rSlL K)) (pv 1) po_none (po_some (pe_op op_sub (pe_callB call_len (by rfl) (T.nb _ (by decide)) PySem.boot_len (pa_cons (pv 1) pa_nil)) (pv 2)))) (nomark _))
 (pss_one (ps_ret (pe_bl))) pss_nil)
 (pss_cons (ps_set (i := 3) sc_isperiod.nd rfl (Or.inl rfl) (pe_op op_divW (pe_callB call_len (by rfl) (T.nb _ (by decide)) PySem.boot_len (pa_cons (pv 0) pa_nil)) (pv 2)))
 (pss_cons (ps_for PassesOwn.never rfl (pi_zip3 (by rfl) (T.nb _ (by decide)) (pa_cons (pv 0) (pa_cons (pe_slice (sl_list : SlR _ (rSlL K)) (pv 0) (po_some (pv 2)) po_none) (pa_cons (pv 1) pa_nil)))) (pg_tup rfl (pgs_cons (pg_name (i := 4) sc_isperiod.nd rfl (Or.inl rfl)) (pgs_cons (pg_name (i := 5) sc_isperiod.nd rfl (Or.inl rfl)) (pgs_cons (pg_name (i := 6) sc_isperiod.nd rfl (Or.inl rfl)) pgs_nil))))
 (pss_one (ps_if (PW.pt (pw_or (pt_cmpR op_isN (pv 4) (pe_non) (nomark _)) (pw_or1 (pt_cmpR op_isN (pv 5) (pe_non) (nomark _)))))
 (pss_one (ps_if (PW.pt (pw_or (pt_cmpR op_notN (pv 4) (pe_non) (nomark _)) (pw_or1 (pt_cmpR op_notN (pv 5) (pe_non) (nomark _)))))
 (pss_one (ps_ret (pe_bl))) pss_nil)) (pss_one (ps_if (pt_cmpR op_ne (pe_op op_mulW' (pe_op op_sub (pv 5) (pv 4)) (pv 3)) (pv 6) (nomark _))
 (pss_one (ps_ret (pe_bl))) pss_nil)))))
 (pss_one (ps_ret (pe_bl)))))), ?_⟩
    have c1 : cutV (sg.map V.int) (some (p : Int)) none = (sg.drop p).map V.int := by rw [cut_from, List.map_drop]
    have c2 : cutV (sg.map V.int) none (some (((sg.map V.int).length : Int) - (p : Int))) = (sg.take (sg.length - p)).map V.int := by
      rw [List.length_map, show ((sg.length : Int) - (p : Int)) = ((sg.length - p : Nat) : Int) by omega, cut_to, List.map_take]
    have c3 : cutV (t.map vO) (some (p : Int)) none = (t.drop p).map vO := by rw [cut_from, List.map_drop]
    refine ⟨_, rfl, _, rfl, _, rfl, _, _, rfl, hb, fun q1 hq1 => ?_⟩
    rw [c1]
    have s1 : Same H (upd H q1 (.lst ((sg.drop p).map V.int))) := Same.new hq1
    have g1 : upd H q1 (.lst ((sg.drop p).map V.int)) q1 = some (.lst ((sg.drop p).map V.int)) := upd_same
    generalize upd H q1 (.lst ((sg.drop p).map V.int)) = H1 at s1 g1 ⊢
    have hb1 := sqL_same hb s1
    refine ⟨_, rfl, _, rfl, _, _, rfl, len_sq hb1, _, rfl, _, _, rfl, rfl, _, rfl, _, _, rfl, hb1, fun q2 hq2 => ?_⟩
    rw [c2]
    have s2 : Same H1 (upd H1 q2 (.lst ((sg.take (sg.length - p)).map V.int))) := Same.new hq2
    have g2 : upd H1 q2 (.lst ((sg.take (sg.length - p)).map V.int)) q2 = some (.lst ((sg.take (sg.length - p)).map V.int)) := upd_same
    generalize upd H1 q2 (.lst ((sg.take (sg.length - p)).map V.int)) = H2 at s2 g2 ⊢
    have g1 := s2 _ _ g1
    have s2 := s1.trans s2
    refine ⟨_, _, .lst (SqL.of g1) (dp_ints _), .lst (SqL.of g2) (dp_ints _), shaped_ints _, shaped_ints _, _, rfl, ?_⟩
    rw [eqv_ints]
    refine ite2 (fun c => ?_) (fun c => ?_)
    · have ne : ¬ sg.drop p = sg.take (sg.length - p) := by
        intro z
        rw [decide_eq_true z] at c
        cases c
      exact k false _ s2 ⟨fun z => (nomatch z), fun z => absurd ((drop_take (by omega)).mpr fun k' hk' => (z k' (by omega)).2.1) ne⟩
    have eqd : sg.drop p = sg.take (sg.length - p) := by
      by_cases z : sg.drop p = sg.take (sg.length - p)
      · exact z
      · exact absurd (by rw [decide_eq_false z]; rfl) c
    have per := (drop_take (by omega)).mp eqd
    have ha2 := sqL_same ha s2
    have hb2 := sqL_same hb s2
    clear c g1 g2
    refine ⟨_, rfl, _, _, rfl, len_sq ha2, _, rfl, _, _, rfl, rfl, by omega, by omega, fun q r e r0 r1 => ?_⟩
    rw [List.length_map] at e
    have eq := div_q e r0 r1
    subst eq
    refine ⟨_, rfl, _, rfl, _, rfl, _, rfl, _, _, rfl, ha2, fun q3 hq3 => ?_⟩
    rw [c3]
    have s3 : Same H2 (upd H2 q3 (.lst ((t.drop p).map vO))) := Same.new hq3
    have g3 : upd H2 q3 (.lst ((t.drop p).map vO)) q3 = some (.lst ((t.drop p).map vO)) := upd_same
    generalize upd H2 q3 (.lst ((t.drop p).map vO)) = H3 at s3 g3 ⊢
    have ha3 := sqL_same ha2 s3
    have hb3 := sqL_same hb2 s3
    have s3 := s2.trans s3
    refine ⟨_, rfl, a, q3, b, _, _, _, rfl, ha3, SqL.of g3, hb3, ?_⟩
    refine for_it (walk_zip3 (K := K) (a := a) (b := q3) (c := b) (n := t.length - p) (xs := t.map vO) (ys := (t.drop p).map vO) (zs := sg.map V.int) (by rw [List.length_map]; omega) (by rw [List.length_map, List.length_drop]) (by rw [List.length_map]; omega))
      (fun i σ H' => ∃ v4 v5 v6 : Option V, Same H3 H' ∧ (∀ k, k < i → PerAt t sg p ((t.length / p : Nat) : Int) k) ∧
      σ = [some (.ref a), some (.ref b), some (.int p), some (.int ((t.length / p : Nat) : Int)), v4, v5, v6]) ⟨_, _, _, fun _ _ h => h, fun k hk => absurd hk (Nat.not_lt_zero k), rfl⟩
      (fun i σ H' _ ⟨_, _, _, sm, _, _⟩ => ⟨sqL_same ha3 sm, SqL.of (sm _ _ g3), sqL_same hb3 sm⟩) ?_ ?_
    · rintro i xv σ H' H4 hi ⟨v4, v5, v6, sm, pre, rfl⟩ ⟨T1, x, y, z, rfl, hT, rfl, h1, h2, h3⟩
      obtain rfl := tv_at h1
      obtain rfl := tv_at h2
      obtain rfl := sv_at h3
      rw [tv_drop, Nat.add_comm p i]
      have sm4 : Same H3 (upd H' T1 (.tup [vO (tv t i), vO (tv t (i + p)), .int (sv sg i)])) := sm.trans (Same.new hT)
      have s4 := s3.trans sm4
      have no : ¬ PerAt t sg p ((t.length / p : Nat) : Int) i → Q (.bl false) (upd H' T1 (.tup [vO (tv t i), vO (tv t (i + p)), .int (sv sg i)])) :=
        fun h => k false _ s4 ⟨fun z => (nomatch z), fun z => absurd (z i hi) h⟩
      have hsv : sv sg i = sv sg (i + p) := per i (by omega)
      refine ⟨T1, _, rfl, SqT.of upd_same, rfl, _, _, rfl, _, _, rfl, _, _, rfl, rfl, ?_⟩
      generalize upd H' T1 (.tup [vO (tv t i), vO (tv t (i + p)), .int (sv sg i)]) = H5 at sm4 s4 no ⊢
      have nxt : PerAt t sg p ((t.length / p : Nat) : Int) i → ∀ k, k < i + 1 → PerAt t sg p ((t.length / p : Nat) : Int) k := fun h k hk => by
        rcases Nat.lt_succ_iff_lt_or_eq.mp hk with z | z
        · exact pre k z
        · rw [z]
          exact h
      cases e1 : tv t i with
      | none =>
        cases e2 : tv t (i + p) with
        | none =>
          refine ⟨_, rfl, rfl, _, rfl, iteT ?_⟩
          refine ⟨_, rfl, rfl, _, rfl, iteF ?_⟩
          refine ⟨_, rfl, rfl, _, rfl, iteF ?_⟩
          exact ⟨_, _, _, sm4, nxt ⟨⟨fun _ => e2, fun _ => e1⟩, hsv, fun i' j' z => by rw [e1] at z; cases z⟩, rfl⟩
        | some y =>
          refine ⟨_, rfl, rfl, _, rfl, iteT ?_⟩
          refine ⟨_, rfl, rfl, _, rfl, iteF ?_⟩
          refine ⟨_, rfl, rfl, _, rfl, iteT ?_⟩
          exact no fun h => by
            have := h.1.mp e1
            rw [e2] at this
            cases this
      | some x =>
        cases e2 : tv t (i + p) with
        | none =>
          refine ⟨_, rfl, rfl, _, rfl, iteF ?_⟩
          refine ⟨_, rfl, rfl, _, rfl, iteT ?_⟩
          refine ⟨_, rfl, rfl, _, rfl, iteT ?_⟩
          exact no fun h => by
            have := h.1.mpr e2
            rw [e1] at this
            cases this
        | some y =>
          refine ⟨_, rfl, rfl, _, rfl, iteF ?_⟩
          refine ⟨_, rfl, rfl, _, rfl, iteF ?_⟩
          refine ⟨_, rfl, _, rfl, _, _, rfl, rfl, _, rfl, _, _, rfl, rfl, .inr ?_, fun z hz => ?_⟩
          · have : t.length / p ≤ t.length := Nat.div_le_self _ _
            exact ⟨Int.lt_of_lt_of_le (by decide) (Int.natCast_nonneg _),
              Int.lt_of_le_of_lt (Int.ofNat_le.mpr (Nat.le_trans this big)) (by decide)⟩
          refine ⟨_, rfl, rfl, _, rfl, ?_⟩
          subst hz
          refine ite2 (fun c => no fun h => ?_) (fun c3 => ?_)
          · have h3 := h.2.2 x y e1 e2
            rw [h3] at c
            simp at c
          · refine ⟨_, _, _, sm4, nxt ⟨⟨fun z => ?_, fun z => ?_⟩, hsv, fun i' j' a b => ?_⟩, rfl⟩
            · rw [e1] at z
              cases z
            · rw [e2] at z
              cases z
            · rw [e1] at a
              rw [e2] at b
              cases a
              cases b
              by_cases z : (y - x) * ((t.length / p : Nat) : Int) = sv sg i
              · exact z
              · exact absurd (by rw [decide_eq_false (fun y => z (V.int.inj y))]; rfl) c3
    · rintro σ H' ⟨v4, v5, v6, sm, pre, rfl⟩
      exact k true _ (s3.trans sm) ⟨fun _ => pre, fun _ => rfl⟩
/-- the least period of such values -/
def LeastP (t : List (Option Int)) (s : List Int) (p : Nat) : Prop := 1 ≤ p ∧ p ≤ t.length ∧ p ∣ t.length ∧
  (p = t.length ∨ IsPer t s p) ∧ ∀ q, 1 ≤ q → q < p → q ∣ t.length → ¬ IsPer t s q
def spLeast (K : PySem.W.Frag) : Sp := fun vs H Q _ => ∃ (a b : Addr) (t : List (Option Int)) (s : List Int),
  vs = [.ref a, .ref b] ∧ SqL K H a (t.map vO) ∧ SqL K H b (s.map V.int) ∧ t.length = s.length ∧ 0 < t.length ∧
  t.length ≤ 100000 ∧ ∀ (p : Nat) (H' : Hp), Same H H' → LeastP t s p → Q (.int p) H'
theorem kp_least_period (T : Txt K mg) : Kf P w K mg base 2 "least_period" ["tail", "climbs"] (spLeast K) := by
  refine T.d_leastperiod.okF sc_leastperiod (fun vs H Q E h => ?_) (fun f cdv A outer s H vs Q E hA hr h => ?_)
  · obtain ⟨a, b, t, sg, rfl, _⟩ := h
    rfl
  · obtain ⟨a, b, t, sg, rfl, ha, hb, hl, l0, big, k⟩ := h
    refine ⟨_, (pss_cons (ps_set (i := 2) sc_leastperiod.nd rfl (Or.inl rfl) (pe_callB call_len (by rfl) (T.nb _ (by decide)) PySem.boot_len (pa_cons (pv 0) pa_nil)))
 (pss_cons (ps_for PassesOwn.never rfl (pi_range2 (by rfl) (T.nb _ (by decide)) (pa_cons (pe_int) (pa_cons (pv 2) pa_nil))) (pg_name (i := 3) sc_leastperiod.nd rfl (Or.inl rfl))
 (pss_one (ps_if (PW.pt (pw_and (pt_cmpR op_eq (pe_op op_modN (pv 2) (pv 3)) (pe_int) (nomark _)) (pw_and1 (pt_val (pe_kf (kp_is_period T) hA hr (by rfl) (pa_cons (pv 0) (pa_cons (pv 1) (pa_cons (pv 3) pa_nil))))))))
 (pss_one (ps_ret (pv 3))) pss_nil)))
 (pss_one (ps_ret (pv 2))))), ?_⟩
    refine ⟨_, rfl, _, _, rfl, len_sq ha, _, rfl, 1, _, rfl, ?_, ?_⟩
    · rw [List.length_map]
      refine ⟨by decide, by decide, by omega, by omega⟩
    have en : (((t.map vO).length : Int) - 1).toNat = t.length - 1 := by
      rw [List.length_map]
      omega
    rw [en]
    refine for_range (lo := 1) (n := t.length - 1) (fun i σ H' => ∃ v3 : Option V, Same H H' ∧ (∀ q, 1 ≤ q → q < i + 1 → q ∣ t.length → ¬ IsPer t sg q) ∧
      σ = [some (.ref a), some (.ref b), some (.int ((t.map vO).length : Int)), v3]) ⟨_, fun _ _ h => h, fun q h1 h2 => by omega, rfl⟩ ?_ ?_
    · rintro i σ H' hi ⟨v3, sm, pre, rfl⟩
      refine ⟨_, rfl, _, rfl, _, _, rfl, rfl, by omega, rfl, _, rfl, ?_⟩
      have e1 : ((1 : Int) + (i : Int)) = ((i + 1 : Nat) : Int) := by omega
      have em : (((t.map vO).length : Int)).fmod (1 + (i : Int)) = ((t.length % (i + 1) : Nat) : Int) := by
        rw [List.length_map, e1, Int.fmod_eq_emod_of_nonneg _ (by omega)]
        rfl
      refine ite2 (fun c => ?_) (fun c => iteF ?_)
      · have hd : i + 1 ∣ t.length := by
          have this : V.int ((((t.map vO).length : Int)).fmod (1 + (i : Int))) = V.int 0 := of_decide_eq_true c
          rw [em] at this
          have := V.int.inj this
          exact Nat.dvd_of_mod_eq_zero (by omega)
        refine ⟨_, rfl, _, rfl, _, rfl, a, b, t, sg, i + 1, ?_, sqL_same ha sm, sqL_same hb sm, hl, by omega, by omega, big, fun r H2 s2 hr => ⟨_, rfl, ?_⟩⟩
        · rw [← e1]
          rfl
        · cases r with
          | true =>
            refine iteT ?_
            refine ⟨_, rfl, ?_⟩
            have := k (i + 1) H2 (sm.trans s2) ⟨by omega, by omega, hd, .inr (hr.mp rfl), fun q h1 h2 => pre q h1 h2⟩
            rw [← e1] at this
            exact this
          | false =>
            refine iteF ?_
            refine ⟨_, sm.trans s2, fun q h1 h2 h3 => ?_, rfl⟩
            rcases Nat.lt_succ_iff_lt_or_eq.mp h2 with z | z
            · exact pre q h1 z h3
            · subst z
              exact fun y => nomatch hr.mpr y
      · refine ⟨_, sm, fun q h1 h2 h3 => ?_, rfl⟩
        rcases Nat.lt_succ_iff_lt_or_eq.mp h2 with z | z
        · exact pre q h1 z h3
        · subst z
          refine absurd (decide_eq_true ?_) c
          show V.int ((((t.map vO).length : Int)).fmod (1 + (i : Int))) = V.int 0
          rw [em, Nat.mod_eq_zero_of_dvd h3]
          rfl
    · rintro σ H' ⟨v3, sm, pre, rfl⟩
      refine ⟨_, rfl, ?_⟩
      have := k t.length H' sm ⟨by omega, Nat.le_refl _, Nat.dvd_refl _, .inl rfl, fun q h1 h2 => pre q h1 (by omega)⟩
      rw [← List.length_map (f := vO)] at this
      exact this
/-- the begin of the normal form, found from behind -/
def spBack (K : PySem.W.Frag) : Sp := fun vs H Q _ => ∃ (a b : Addr) (t : List (Option Int)) (g : List Int) (b0 : Nat),
  vs = [.ref a, .int b0, .ref b] ∧ SqL K H a (t.map vO) ∧ SqL K H b (g.map V.int) ∧ 1 ≤ g.length ∧ b0 + g.length ≤ t.length ∧ t.length ≤ 100000 ∧
  ∀ n : Nat, n ≤ b0 → (∀ m, n ≤ m → m < b0 → leadsB (tv t m) (tv t (m + g.length)) (sv g (m % g.length)) = true) →
    (n = 0 ∨ leadsB (tv t (n - 1)) (tv t (n - 1 + g.length)) (sv g ((n - 1) % g.length)) = false) → Q (.int n) H
theorem kp_begin_back (T : Txt K mg) : Kf P w K mg base 1 "begin_back" ["told", "begin", "gains"] (spBack K) := by
  refine T.d_beginback.okF sc_beginback (fun vs H Q E h => ?_) (fun f cdv A outer s H vs Q E hA hr h => ?_)
  · obtain ⟨a, b, t, g, b0, rfl, _⟩ := h
    rfl
  · obtain ⟨a, b, t, g, b0, rfl, ha, hb, g1, gt, big, k⟩ := h
    refine ⟨_, (pss_cons (ps_set (i := 3) sc_beginback.nd rfl (Or.inl rfl) (pe_callB call_len (by rfl) (T.nb _ (by decide)) PySem.boot_len (pa_cons (pv 2) pa_nil)))
 (pss_cons (ps_while PassesOwn.never (pt_cmpR op_gt (pv 1) (pe_int) (nomark _))
 (pss_cons (ps_par (i := 4) (j := 5) (by rfl) sc_beginback.nd rfl rfl (by decide) rfl rfl (pa_cons (pe_ix (ix_list : IxR _ (rIxL K)) (pv 0) (pe_op op_sub (pv 1) (pe_int)) (fun _ _ => rfl)) (pa_cons (pe_ix (ix_list : IxR _ (rIxL K)) (pv 0) (pe_op op_add (pe_op op_sub (pv 1) (pe_int)) (pv 3)) (fun _ _ => rfl)) pa_nil)) (by rfl))
 (pss_cons (ps_if (PW.pt (pw_or (pt_cmpR op_isN (pv 4) (pe_non) (nomark _)) (pw_or1 (pt_cmpR op_isN (pv 5) (pe_non) (nomark _)))))
 (pss_one (ps_if (PW.pt (pw_or (pt_cmpR op_notN (pv 4) (pe_non) (nomark _)) (pw_or1 (pt_cmpR op_notN (pv 5) (pe_non) (nomark _)))))
 (pss_one (ps_ret (pv 1))) pss_nil)) (pss_one (ps_if (pt_cmpR op_ne (pe_op op_add (pv 4) (pe_ix (ix_list : IxR _ (rIxL K)) (pv 2) (pe_op op_modN (pe_op op_sub (pv 1) (pe_int)) (pv 3)) (fun _ _ => rfl))) (pv 5) (nomark _))
 (pss_one (ps_ret (pv 1))) pss_nil)))
 (pss_one (ps_set (i := 1) sc_beginback.nd rfl (Or.inl rfl) (pe_op op_sub (pv 1) (pe_int)))))))
 (pss_one (ps_ret (pv 1))))), ?_⟩
    refine ⟨_, rfl, _, _, rfl, len_sq hb, ?_⟩
    rw [List.length_map]
    dsimp only [tSeq]
    refine while_by (fun σ H' => ∃ (n : Nat) (v4 v5 : Option V), H' = H ∧ n ≤ b0 ∧
        (∀ m, n ≤ m → m < b0 → leadsB (tv t m) (tv t (m + g.length)) (sv g (m % g.length)) = true) ∧
        σ = [some (.ref a), some (.int n), some (.ref b), some (.int g.length), v4, v5])
      (fun σ _ => match σ[1]? with | some (some (V.int i)) => i.toNat | _ => 0) ⟨b0, _, _, rfl, Nat.le_refl _, fun m h1 h2 => by omega, rfl⟩ ?_ ?_
    · rintro σ H' ⟨n, v4, v5, rfl, nb, pre, rfl⟩
      refine ⟨_, rfl, _, _, rfl, rfl, _, rfl, ?_⟩
      refine ite2 (fun c => ?_) (fun c => ?_)
      · have n0 : 0 < n := by
          have : (0 : Int) < (n : Int) := of_decide_eq_true c
          omega
        have e1 : ((n : Int) - 1) = ((n - 1 : Nat) : Int) := by omega
        have e2 : ((n : Int) - 1 + (g.length : Int)) = ((n - 1 + g.length : Nat) : Int) := by omega
        have e3 : (((n : Int) - 1)).fmod (g.length : Int) = (((n - 1) % g.length : Nat) : Int) := by
          rw [e1, Int.fmod_eq_emod_of_nonneg _ (by omega)]
          rfl
        have l2 : (n - 1) % g.length < g.length := Nat.mod_lt _ (by omega)
        refine ⟨_, rfl, _, rfl, _, _, rfl, rfl, _, _, _, _, rfl, rfl, ha, at_tv e1 (by omega), ?_⟩
        refine ⟨_, rfl, _, rfl, _, _, rfl, rfl, _, rfl, _, _, rfl, rfl, _, _, _, _, rfl, rfl, ha, at_tv e2 (by omega), ?_⟩
        refine ⟨_, _, rfl, ?_⟩
        have stp : leadsB (tv t (n - 1)) (tv t (n - 1 + g.length)) (sv g ((n - 1) % g.length)) = true →
            ∀ m, n - 1 ≤ m → m < b0 → leadsB (tv t m) (tv t (m + g.length)) (sv g (m % g.length)) = true := fun h m h1 h2 => by
          rcases Nat.lt_or_ge m n with z | z
          · have : m = n - 1 := by omega
            rw [this]
            exact h
          · exact pre m z h2
        have ret : leadsB (tv t (n - 1)) (tv t (n - 1 + g.length)) (sv g ((n - 1) % g.length)) = false → Q (.int n) H' := fun h => k n nb pre (.inr h)
        cases q1 : tv t (n - 1) with
        | none =>
          cases q2 : tv t (n - 1 + g.length) with
          | none =>
            refine ⟨_, rfl, rfl, _, rfl, iteT ?_⟩
            refine ⟨_, rfl, rfl, _, rfl, iteF ?_⟩
            refine ⟨_, rfl, rfl, _, rfl, iteF ?_⟩
            refine ⟨_, rfl, _, _, rfl, rfl, ⟨n - 1, some .non, some .non, rfl, by omega, stp (by rw [q1, q2]; rfl), ?_⟩, ?_⟩
            · rw [← e1]
              rfl
            · show ((n : Int) - 1).toNat < ((n : Int)).toNat
              omega
          | some y =>
            refine ⟨_, rfl, rfl, _, rfl, iteT ?_⟩
            refine ⟨_, rfl, rfl, _, rfl, iteF ?_⟩
            refine ⟨_, rfl, rfl, _, rfl, iteT ?_⟩
            exact ⟨_, rfl, ret (by rw [q1, q2]; rfl)⟩
        | some x =>
          cases q2 : tv t (n - 1 + g.length) with
          | none =>
            refine ⟨_, rfl, rfl, _, rfl, iteF ?_⟩
            refine ⟨_, rfl, rfl, _, rfl, iteT ?_⟩
            refine ⟨_, rfl, rfl, _, rfl, iteT ?_⟩
            exact ⟨_, rfl, ret (by rw [q1, q2]; rfl)⟩
          | some y =>
            refine ⟨_, rfl, rfl, _, rfl, iteF ?_⟩
            refine ⟨_, rfl, rfl, _, rfl, iteF ?_⟩
            refine ⟨_, rfl, _, rfl, _, rfl, _, _, rfl, rfl, _, rfl, _, _, rfl, rfl, by omega, _, _, _, _, rfl, rfl, hb, at_sv e3 l2, ?_⟩
            refine ⟨_, _, rfl, rfl, _, rfl, rfl, _, rfl, ?_⟩
            refine ite2 (fun c1 => ?_) (fun c1 => ?_)
            · refine ⟨_, rfl, ret ?_⟩
              rw [q1, q2]
              show decide (some y = some (x + _)) = false
              refine decide_eq_false fun z => ?_
              have z := Option.some.inj z
              replace c1 : (!decide (V.int (x + sv g ((n - 1) % g.length)) = V.int y)) = true := c1
              rw [← z, decide_eq_true rfl] at c1
              cases c1
            · refine ⟨_, rfl, _, _, rfl, rfl, ⟨n - 1, some (.int x), some (.int y), rfl, by omega, stp ?_, ?_⟩, ?_⟩
              · rw [q1, q2]
                replace c1 : ¬ (!decide (V.int (x + sv g ((n - 1) % g.length)) = V.int y)) = true := c1
                show decide (some y = some (x + _)) = true
                refine decide_eq_true ?_
                by_cases z : x + sv g ((n - 1) % g.length) = y
                · rw [z]
                · exact absurd (by rw [decide_eq_false (fun y => z (V.int.inj y))]; rfl) c1
              · rw [← e1]
                rfl
              · show ((n : Int) - 1).toNat < ((n : Int)).toNat
                omega
      · have n0 : n = 0 := by
          rcases Nat.eq_zero_or_pos n with z | z
          · exact z
          · exact absurd (decide_eq_true (show (0 : Int) < (n : Int) by omega)) c
        exact ⟨_, rfl, k n nb pre (.inl n0)⟩
    · intro σ H Q Q' h c
      obtain ⟨v3, e3, i, j, ei, ej, c⟩ := c
      refine ⟨v3, e3, i, j, ei, ej, ?_⟩
      obtain ⟨b, eb, c⟩ := c
      exact ⟨b, eb, h _ _ c⟩
end
end KG
namespace KG
open PySem L2
section
variable {P : Program} {w : World} {K : PySem.W.Frag} {mg : Str → Option Value} {base : Heap}
/-- what the rest at place k of the tail climbs -/
def climb (T : List (Option Int)) (G : List Int) (k : Nat) : Int :=
  match tv T (T.length - G.length + k) with
  | none => 0
  | some _ => sv G ((T.length - G.length + k) % G.length)
def climbs (T : List (Option Int)) (G : List Int) : List Int := (List.range G.length).map (climb T G)
def lst1 (T : List (Option Int)) (G : List Int) (p r : Nat) : Int :=
  (sv (climbs T G) (((r : Int) - ((T.length - G.length : Nat) : Int)).fmod (p : Int)).toNat * (p : Int)).fdiv (G.length : Int)
def least (T : List (Option Int)) (G : List Int) (p : Nat) : List Int := (List.range p).map (lst1 T G p)
/-- where the told ones are ended in the normal form -/
structure SetAt (T : List (Option Int)) (G : List Int) (p e : Nat) : Prop where
  lp : LeastP (T.drop (T.length - G.length)) (climbs T G) p
  le : e ≤ T.length - G.length
  go : ∀ n, e ≤ n → n < T.length - G.length → leadsB (tv T n) (tv T (n + p)) (sv (least T G p) (n % p)) = true
  no : e = 0 ∨ leadsB (tv T (e - 1)) (tv T (e - 1 + p)) (sv (least T G p) ((e - 1) % p)) = false
def spSettled (K : PySem.W.Frag) : Sp := fun vs H Q _ => ∃ (a b : Addr) (T : List (Option Int)) (G : List Int),
  vs = [.ref a, .ref b] ∧ SqL K H a (T.map vO) ∧ SqS K H b (G.map V.int) ∧ 1 ≤ G.length ∧ G.length ≤ 60 ∧
  G.length ≤ T.length ∧ T.length ≤ 100000 ∧
  ∀ (p e : Nat) (x y z : Addr) (H' : Hp), SetAt T G p e → Same H H' → H' z = some (.tup [.ref x, .ref y]) →
    H' x = some (.lst ((T.take (e + p)).map vO)) → H' y = some (.lst ((least T G p).map V.int)) → Q (.ref z) H'
theorem rix_seq {H : Hp} {a : Addr} {xs : List V} {i : Int} {v : V} {Q : VK} (hs : SqS K H a xs) (h : atI xs i = some v) (k : Q v H) :
    rIx K (.ref a) (.int i) H Q := by
  rcases hs with hs | hs
  · exact .inl ⟨_, _, _, _, rfl, rfl, hs, h, k⟩
  · exact .inr (.inl ⟨_, _, _, _, rfl, rfl, hs, h, k⟩)
theorem fm_ints (f : Nat → Int) (n : Nat) : fm (fun i _ => some (V.int (f i))) 0 (rngV 0 n) = ((List.range n).map f).map V.int := by
  rw [fm_idx _ (fun i => V.int (f i)) (fun _ _ => rfl), rngV_len, List.map_map]
  apply List.map_congr_left
  intro i _
  show V.int (f (0 + i)) = V.int (f i)
  rw [Nat.zero_add]
theorem sv_range (f : Nat → Int) {n i : Nat} (h : i < n) : sv ((List.range n).map f) i = f i := by
  simp [sv, List.getD_eq_getElem?_getD, h]
theorem kp_settled (T : Txt K mg) : Kf P w K mg base 3 "settled" ["told", "gains"] (spSettled K) := by
  refine T.d_settled.okF sc_settled (fun vs H Q E h => ?_) (fun f cdv A outer s H vs Q E hA hr h => ?_)
  · obtain ⟨a, b, t, g, rfl, _⟩ := h
    rfl
  · obtain ⟨a, b, t, g, rfl, ha, hb, g1, g2, gt, big, k⟩ := h
    refine ⟨_, (pss_cons (ps_set (i := 2) sc_settled.nd rfl (Or.inr rfl) (pe_callB call_len (by rfl) (T.nb _ (by decide)) PySem.boot_len (pa_cons (pv 1) pa_nil)))
 (pss_cons (ps_set (i := 3) sc_settled.nd rfl (Or.inr rfl) (pe_op op_sub (pe_callB call_len (by rfl) (T.nb _ (by decide)) PySem.boot_len (pa_cons (pv 0) pa_nil)) (pv 2)))
 (pss_cons (ps_set (i := 4) sc_settled.nd rfl (Or.inr rfl) (pe_slice (sl_list : SlR _ (rSlL K)) (pv 0) (po_some (pv 3)) po_none))
 (pss_cons (ps_set (i := 5) sc_settled.nd rfl (Or.inr rfl) (pe_lc (own := [("k", 8)]) (g := gName 8) (tt := tYes) rfl sc_settled.nd (pi_range1 (by rfl) (T.nb _ (by decide)) (pa_cons (pv 2) pa_nil)) (blkOk_by (N := n_settled) (sc := defScope s_settled) (by decide +kernel)) (fun _ _ _ _ _ => pg_name (i := 8) sc_settled.nd rfl (Or.inl rfl)) (fun _ _ _ _ _ => pts_nil) (fun _ _ _ _ _ => (pe_ifExp (pt_cmpR op_isN (pe_ix (ix_list : IxR _ (rIxL K)) (pv 4) (pv 8) (fun _ _ => rfl)) (pe_non) (nomark _)) (pe_int) (pe_ix (ix_seq : IxR _ (rIx K)) (pv 1) (pe_op op_modN (pe_op op_add (pv 3) (pv 8)) (pv 2)) (fun _ _ => rfl))))))
 (pss_cons (ps_set (i := 6) sc_settled.nd rfl (Or.inr rfl) (pe_kf (kp_least_period T) hA hr (by rfl) (pa_cons (pv 4) (pa_cons (pv 5) pa_nil))))
 (pss_cons (ps_setLc (i := 7) (own := [("rest", 9)]) (g := gName 9) (tt := tYes) rfl sc_settled.nd rfl rfl (sw_true rfl rfl rfl (by decide +kernel)) (pi_range1 (by rfl) (T.nb _ (by decide)) (pa_cons (pv 6) pa_nil)) (blkOk_by (N := n_settled) (sc := defScope s_settled) (by decide +kernel)) (fun _ _ _ _ _ => pg_name (i := 9) sc_settled.nd rfl (Or.inl rfl)) (fun _ _ _ _ _ => pts_nil) (fun _ _ _ _ _ => (pe_op op_fdivN (pe_op op_mul (pe_ix (ix_list : IxR _ (rIxL K)) (pv 5) (pe_op op_modN (pe_op op_sub (pv 9) (pv 3)) (pv 6)) (fun _ _ => rfl)) (pv 6)) (pv 2))))
 (pss_one (ps_ret (pe_tup (pa_cons (pe_slice (sl_list : SlR _ (rSlL K)) (pv 0) po_none (po_some (pe_op op_add (pe_kf (kp_begin_back T) hA hr (by rfl) (pa_cons (pv 0) (pa_cons (pv 3) (pa_cons (pv 7) pa_nil)))) (pv 6)))) (pa_cons (pv 7) pa_nil))))))))))), ?_⟩
    refine ⟨_, rfl, _, _, rfl, hb.len, _, rfl, _, _, rfl, len_sq ha, _, rfl, _, _, rfl, rfl, ?_⟩
    rw [List.length_map, List.length_map]
    refine ⟨_, rfl, _, rfl, _, rfl, _, _, rfl, ha, fun q hq => ?_⟩
    have eb : ((t.length : Int) - (g.length : Int)) = ((t.length - g.length : Nat) : Int) := by omega
    generalize hb0 : t.length - g.length = b0 at eb
    have hs0 : Same H (upd H q (.lst ((t.drop b0).map vO))) := Same.new hq
    rw [show cutV (t.map vO) (some ((t.length : Int) - (g.length : Int))) none = (t.drop b0).map vO by rw [eb, cut_from, List.map_drop]]
    dsimp only [tNext, tRet, tCB, tCons]
    refine ⟨_, rfl, _, rfl, by omega, by omega, fun D hD => ?_⟩
    rw [eb, Int.toNat_natCast]
    have q0 : ∀ u : HO, upd (upd H q (.lst ((t.drop b0).map vO))) D u q = some (.lst ((t.drop b0).map vO)) := fun u => upd_new hD upd_same
    have dl : (t.drop b0).length = g.length := by
      rw [List.length_drop]
      omega
    refine lc_rng (r := fun i _ => some (.int (climb t g i))) (by show _ ≤ sizeLine; exact Nat.le_trans g2 (by decide)) hD ?_ ?_
    · intro i H' hi hH Ky Kn hy _
      have hq' : H' q = some (.lst ((t.drop b0).map vO)) := hH q _ upd_same
      have hb' : SqS K H' b (g.map V.int) := hb.new (hs0.trans hH)
      refine ⟨rfl, yes_run ?_⟩
      refine ⟨_, rfl, _, rfl, _, _, _, _, rfl, rfl, SqL.of hq', at_tv (k := i) (by omega) (by omega), ?_⟩
      refine ⟨rfl, _, rfl, ?_⟩
      rw [tv_drop]
      cases e : tv t (b0 + i) with
      | none =>
        refine iteT ?_
        refine hy _ ?_
        show some (V.int (climb t g i)) = _
        unfold climb
        rw [hb0, e]
      | some x =>
        refine iteF ?_
        refine ⟨_, rfl, _, rfl, _, rfl, _, _, rfl, rfl, _, rfl, _, _, rfl, rfl, by omega, ?_⟩
        have em : ((b0 : Int) + (0 + (i : Int))).fmod (g.length : Int) = (((b0 + i) % g.length : Nat) : Int) := by
          rw [Int.fmod_eq_emod_of_nonneg _ (by omega), Int.zero_add]
          rfl
        refine rix_seq hb' (at_sv em (Nat.mod_lt _ (by omega))) ?_
        refine hy _ ?_
        show some (V.int (climb t g i)) = _
        unfold climb
        rw [hb0, e]
    · rw [fm_ints]
      have hs1 : Same H (upd (upd H q (.lst ((t.drop b0).map vO))) D (.lst ((climbs t g).map V.int))) := hs0.trans (Same.new hD)
      refine ⟨_, rfl, _, rfl, q, D, t.drop b0, climbs t g, rfl, SqL.of (q0 _), SqL.of upd_same, ?_, by omega, by omega, fun p H3 s3 hp => ?_⟩
      · unfold climbs
        rw [dl, List.length_map, List.length_range]
      have p1 : 1 ≤ p := hp.1
      have p2 : p ≤ g.length := by
        have := hp.2.1
        omega
      replace s3 : Same (upd (upd H q (.lst ((t.drop b0).map vO))) D (.lst ((climbs t g).map V.int))) H3 := s3
      have gD : H3 D = some (.lst ((climbs t g).map V.int)) := s3 _ _ upd_same
      have hs3 : Same H H3 := hs1.trans s3
      have ha3 := sqL_same ha hs3
      clear hs1 s3
      dsimp only [tNext, tRet, tCB, tCons]
      refine ⟨_, rfl, _, rfl, by omega, by omega, fun D2 hD2 => ?_⟩
      rw [Int.toNat_natCast]
      refine lc_rng (r := fun i _ => some (.int (lst1 t g p i))) (by show _ ≤ sizeLine; exact Nat.le_trans (Nat.le_trans p2 g2) (by decide)) hD2 ?_ ?_
      · intro i H' hi hH Ky Kn hy _
        have hD' : H' D = some (.lst ((climbs t g).map V.int)) := hH D _ gD
        refine ⟨rfl, yes_run ?_⟩
        have m0 := Int.fmod_nonneg_of_pos ((i : Int) - (b0 : Int)) (show 0 < (p : Int) by omega)
        have m1 := Int.fmod_lt_of_pos ((i : Int) - (b0 : Int)) (show 0 < (p : Int) by omega)
        have em : ((0 + (i : Int)) - (b0 : Int)).fmod (p : Int) = (((((i : Int) - (b0 : Int)).fmod (p : Int)).toNat : Nat) : Int) := by
          rw [Int.zero_add, Int.toNat_of_nonneg m0]
        refine ⟨_, rfl, _, rfl, _, rfl, _, _, rfl, rfl, _, rfl, _, _, rfl, rfl, by omega, ?_⟩
        refine ⟨_, _, _, _, rfl, rfl, SqL.of hD', at_sv em ?_, ?_⟩
        · unfold climbs
          rw [List.length_map, List.length_range]
          omega
        refine ⟨_, rfl, _, _, rfl, rfl, .inr (by constructor <;> omega), _, rfl, _, _, rfl, rfl, by constructor <;> omega, ?_⟩
        refine hy _ ?_
        show some (V.int (lst1 t g p i)) = _
        unfold lst1
        rw [hb0]
      · rw [fm_ints]
        have hs2 : Same H (upd H3 D2 (.lst ((least t g p).map V.int))) := hs3.trans (Same.new hD2)
        have hL : upd H3 D2 (.lst ((least t g p).map V.int)) D2 = some (.lst ((least t g p).map V.int)) := upd_same
        rw [show (List.range p).map (lst1 t g p) = least t g p from rfl]
        generalize upd H3 D2 (.lst ((least t g p).map V.int)) = H2 at hs2 hL ⊢
        have ha2 : SqL K H2 a (t.map vO) := sqL_same ha hs2
        have l1 : (least t g p).length = p := by
          unfold least
          rw [List.length_map, List.length_range]
        refine ⟨_, rfl, _, rfl, _, rfl, _, rfl, a, D2, t, least t g p, b0, rfl, ha2, SqL.of hL, by omega, by omega, by omega, fun n h1 h2 h3 => ?_⟩
        rw [l1] at h2 h3
        have et : cutV (t.map vO) none (some ((n : Int) + (p : Int))) = (t.take (n + p)).map vO := by
          rw [show ((n : Int) + (p : Int)) = ((n + p : Nat) : Int) by omega, cut_to, List.map_take]
        refine ⟨_, rfl, _, _, rfl, rfl, _, rfl, _, _, rfl, ha2, fun x hx => ⟨_, rfl, (by show 2 ≤ sizeLine; decide), fun z hz => ?_⟩⟩
        rw [et] at hz ⊢
        exact k p n x D2 z _ ⟨by rw [hb0]; exact hp, by rw [hb0]; exact h1, by rw [hb0]; exact h2, h3⟩
          (hs2.trans ((Same.new hx).trans (Same.new hz))) upd_same (upd_new hz upd_same) (upd_new hz (upd_new hx hL))
end
end KG
namespace KG
open PySem L2
abbrev s_init : Stmt := inClass (top 44) 0
abbrev n_init : List Str := ["self", "told", "gains", "least_told", "least_gains"]
theorem sc_init : FnScope n_init ["self", "told", "gains"] (defScope s_init) :=
  ⟨rfl, rfl, rfl, by decide +kernel, rfl, by decide +kernel, by decide +kernel⟩
abbrev s_greatest : Stmt := inClass (top 44) 6
abbrev n_greatest : List Str := ["self", "value"]
theorem sc_greatest : FnScope n_greatest ["self"] (defScope s_greatest) :=
  ⟨rfl, rfl, rfl, by decide +kernel, rfl, by decide +kernel, by decide +kernel⟩
abbrev s_endless : Stmt := inClass (top 44) 7
abbrev n_endless : List Str := ["self", "gain"]
theorem sc_endless : FnScope n_endless ["self"] (defScope s_endless) :=
  ⟨rfl, rfl, rfl, by decide +kernel, rfl, by decide +kernel, by decide +kernel⟩
abbrev s_slope : Stmt := inClass (top 44) 8
abbrev n_slope : List Str := ["self", "gain", "part"]
theorem sc_slope : FnScope n_slope ["self"] (defScope s_slope) :=
  ⟨rfl, rfl, rfl, by decide +kernel, rfl, by decide +kernel, by decide +kernel⟩
abbrev s_constant : Stmt := inClass (top 44) 1
abbrev n_constant : List Str := ["k"]
theorem sc_constant : FnScope n_constant ["k"] (defScope s_constant) :=
  ⟨rfl, rfl, rfl, by decide +kernel, rfl, by decide +kernel, by decide +kernel⟩
abbrev s_ramp : Stmt := inClass (top 44) 2
abbrev n_ramp : List Str := ["gain", "begin"]
theorem sc_ramp : FnScope n_ramp ["gain", "begin"] (defScope s_ramp) :=
  ⟨rfl, rfl, rfl, by decide +kernel, rfl, by decide +kernel, by decide +kernel⟩
abbrev s_gnone : Stmt := inClass (top 44) 3
abbrev n_gnone : List Str := []
theorem sc_gnone : FnScope n_gnone [] (defScope s_gnone) :=
  ⟨rfl, rfl, rfl, by decide +kernel, rfl, by decide +kernel, by decide +kernel⟩
def gC (mg : Str → Option Value) : Addr := adr mg "Growth"
structure TxG (K : PySem.W.Frag) (mg : Str → Option Value) : Prop where
  T : Txt K mg
  mgC : mg "Growth" = some (.ref (gC mg))
  mgG : mg "gcd" = some (.builtin "math.gcd")
  cls : Cls K (gC mg)
  nT : NoAttr K (gC mg) "told"
  nG : NoAttr K (gC mg) "gains"
  init : ∃ f fd d, Mk K (gC mg) f ∧ MD K "__init__" "Growth.__init__" s_init [.ref d] f fd ∧ Binds K fd ["self", "told", "gains"] [] ∧
    (∃ ds, Vals [.ref d] ds ∧ Binds K fd ["self", "told", "gains"] ds) ∧ ∀ H, SqT K H d [.int 0]
  pG : ∃ p g fd, PropOf K (gC mg) "greatest" p g ∧ MD K "greatest" "Growth.greatest" s_greatest [] g fd ∧ Binds K fd ["self"] []
  pE : ∃ p g fd, PropOf K (gC mg) "is_endless" p g ∧ MD K "is_endless" "Growth.is_endless" s_endless [] g fd ∧ Binds K fd ["self"] []
  pS : ∃ p g fd, PropOf K (gC mg) "slope" p g ∧ MD K "slope" "Growth.slope" s_slope [] g fd ∧ Binds K fd ["self"] []
  sC : ∃ g fd, SMet K (gC mg) "constant" g ∧ MD K "constant" "Growth.constant" s_constant [] g fd ∧ Binds K fd ["k"] []
  sR : ∃ g fd, SMet K (gC mg) "ramp" g ∧ MD K "ramp" "Growth.ramp" s_ramp [.int 0] g fd ∧ Binds K fd ["gain", "begin"] [] ∧
    ∃ ds, Vals [.int 0] ds ∧ Binds K fd ["gain", "begin"] ds
  sN : ∃ g fd, SMet K (gC mg) "none" g ∧ MD K "none" "Growth.none" s_gnone [] g fd ∧ Binds K fd [] []
section
variable {P : Program} {w : World} {K : PySem.W.Frag} {mg : Str → Option Value} {base : Heap}
def lastAt (T : List (Option Int)) (G : List Int) (i : Nat) : Option Int :=
  match tv T (T.length - G.length + i) with
  | none => none
  | some _ => some (sv G ((T.length - G.length + i) % G.length))
def lastG (T : List (Option Int)) (G : List Int) : List Int := (List.range G.length).filterMap (lastAt T G)
theorem fm_filt0 (f : Nat → Option Int) : ∀ (xs : List V) (k : Nat),
    fm (fun i _ => (f i).map V.int) k xs = ((List.range xs.length).filterMap fun i => f (k + i)).map V.int
  | [], _ => rfl
  | x :: xs, k => by
    unfold fm
    rw [fm_filt0 f xs (k + 1), List.length_cons, List.range_succ_eq_map, List.filterMap_cons, List.filterMap_map]
    have e : ((fun i => f (k + i)) ∘ Nat.succ) = fun i => f (k + 1 + i) := by
      funext i
      show f (k + (i + 1)) = f (k + 1 + i)
      congr 1
      omega
    rw [e]
    cases h : f k with
    | none => simp [h]
    | some v => simp [h]
theorem fm_filt (f : Nat → Option Int) (lo : Int) (n : Nat) :
    fm (fun i _ => (f i).map V.int) 0 (rngV lo n) = ((List.range n).filterMap f).map V.int := by
  rw [fm_filt0, rngV_len]
  congr 2
  funext i
  rw [Nat.zero_add]
def spLasting (K : PySem.W.Frag) : Sp := fun vs H Q _ => ∃ (a b : Addr) (T : List (Option Int)) (G : List Int),
  vs = [.ref a, .ref b] ∧ SqS K H a (T.map vO) ∧ SqS K H b (G.map V.int) ∧ 1 ≤ G.length ∧ G.length ≤ T.length ∧ T.length ≤ 100000 ∧
  ∀ (q : Addr), H q = none → Q (.ref q) (upd H q (.lst ((lastG T G).map V.int)))
theorem kp_lasting (T : Txt K mg) : Kf P w K mg base 1 "lasting_gains" ["told", "gains"] (spLasting K) := by
  refine T.d_lasting.okF sc_lasting (fun vs H Q E h => ?_) (fun f cdv A outer s H vs Q E hA hr h => ?_)
  · obtain ⟨a, b, t, g, rfl, _⟩ := h
    rfl
  · obtain ⟨a, b, t, g, rfl, ha, hb, g1, gt, big, k⟩ := h
    refine ⟨_, (pss_cons (ps_set (i := 2) sc_lasting.nd rfl (Or.inr rfl) (pe_callB call_len (by rfl) (T.nb _ (by decide)) PySem.boot_len (pa_cons (pv 1) pa_nil)))
 (pss_one (ps_ret (pe_lc (own := [("n", 3)]) (g := gName 3) rfl sc_lasting.nd (pi_range2 (by rfl) (T.nb _ (by decide)) (pa_cons (pe_op op_sub (pe_callB call_len (by rfl) (T.nb _ (by decide)) PySem.boot_len (pa_cons (pv 0) pa_nil)) (pv 2)) (pa_cons (pe_callB call_len (by rfl) (T.nb _ (by decide)) PySem.boot_len (pa_cons (pv 0) pa_nil)) pa_nil))) (blkOk_by (N := n_lasting) (sc := defScope s_lasting) (by decide +kernel)) (fun _ _ _ _ _ => pg_name (i := 3) sc_lasting.nd rfl (Or.inl rfl)) (fun _ _ _ _ _ => (pts_one (pt_cmpR op_notN (pe_ix (ix_seq : IxR _ (rIx K)) (pv 0) (pv 3) (fun _ _ => rfl)) (pe_non) (nomark _)))) (fun _ _ _ _ _ => (pe_ix (ix_seq : IxR _ (rIx K)) (pv 1) (pe_op op_modN (pv 3) (pv 2)) (fun _ _ => rfl))))))), ?_⟩
    refine ⟨_, rfl, _, _, rfl, hb.len, _, rfl, _, _, rfl, ha.len, _, rfl, _, _, rfl, rfl, _, rfl, _, _, rfl, ha.len, ?_⟩
    rw [List.length_map, List.length_map]
    have eb : ((t.length : Int) - (g.length : Int)) = ((t.length - g.length : Nat) : Int) := by omega
    generalize hb0 : t.length - g.length = b0 at eb
    dsimp only [tNext, tRet, tCB, tCons]
    refine ⟨_, _, rfl, by constructor <;> omega, fun D hD => ?_⟩
    rw [eb, show ((t.length : Int) - (b0 : Int)).toNat = g.length by omega]
    refine lc_rng (r := fun i _ => (lastAt t g i).map V.int) (by show _ ≤ sizeLine; exact Nat.le_trans (Nat.le_trans gt big) (by decide)) hD ?_ ?_
    · intro i H' hi hH Ky Kn hy hn
      refine ⟨rfl, _, rfl, _, rfl, ?_⟩
      refine rix_seq (ha.new hH) (at_tv (k := b0 + i) (by omega) (by omega)) ?_
      refine ⟨rfl, _, rfl, ?_⟩
      cases e : tv t (b0 + i) with
      | none =>
        refine iteF (hn ?_)
        show (lastAt t g i).map V.int = none
        unfold lastAt
        rw [hb0, e]
        rfl
      | some x =>
        refine iteT ?_
        refine ⟨_, rfl, _, rfl, _, rfl, _, _, rfl, rfl, by omega, ?_⟩
        have em : ((b0 : Int) + (i : Int)).fmod (g.length : Int) = (((b0 + i) % g.length : Nat) : Int) := by
          rw [Int.fmod_eq_emod_of_nonneg _ (by omega)]
          rfl
        refine rix_seq (hb.new hH) (at_sv em (Nat.mod_lt _ (by omega))) (hy _ ?_)
        show (lastAt t g i).map V.int = some _
        unfold lastAt
        rw [hb0, e]
        rfl
    · rw [fm_filt]
      exact k D hD
/-- a growth made of these -/
def GrowAt (C : Addr) (H : Hp) (x : Addr) (T : List (Option Int)) (G : List Int) (p e : Nat) : Prop :=
  ∃ (dx t g : Addr), SetAt T G p e ∧ H x = some (.ins C dx [("told", .ref t), ("gains", .ref g)]) ∧
    H t = some (.tup ((T.take (e + p)).map vO)) ∧ H g = some (.tup ((least T G p).map V.int))
def spInit (K : PySem.W.Frag) (C : Addr) : Sp := fun vs H Q _ => ∃ (x dx a b : Addr) (T : List (Option Int)) (G : List Int),
  vs = [.ref x, .ref a, .ref b] ∧ H x = some (.ins C dx []) ∧ SqL K H a (T.map vO) ∧ SqS K H b (G.map V.int) ∧ 1 ≤ G.length ∧ G.length ≤ 60 ∧
  G.length ≤ T.length ∧ T.length ≤ 4000 ∧ ∀ (p e : Nat) (H' : Hp), But x H H' → GrowAt C H' x T G p e → Q .non H'
theorem kp_init (TG : TxG K mg) : Kmk P w K mg base (gC mg) 4 ["self", "told", "gains"] (spInit K (gC mg)) fun d => ∃ a, d = .ref a ∧ ∀ H, SqT K H a [.int 0] := by
  have T := TG.T
  obtain ⟨f, fd, d, M, F, b0, b1, ht⟩ := TG.init
  refine ⟨f, fd, .ref d, M, b0, b1, ⟨d, rfl, ht⟩, F.okM sc_init (fun vs H Q E h => ?_) (fun f cdv A outer s H vs Q E hA hr h => ?_)⟩
  · obtain ⟨x, dx, a, b, t, g, rfl, _⟩ := h
    rfl
  · obtain ⟨x, dx, a, b, t, g, rfl, hx, ha, hb, g1, g2, gt, big, k⟩ := h
    refine ⟨_, (pss_cons (ps_if (pt_not (pt_val (pe_kf (kp_are_gains T) hA hr (by rfl) (pa_cons (pv 2) pa_nil))))
 (pss_one (ps_never)) pss_nil)
 (pss_cons (ps_if (pt_not (pt_val (pe_kf (kp_are_told T) hA hr (by rfl) (pa_cons (pv 1) (pa_cons (pe_callB call_len (by rfl) (T.nb _ (by decide)) PySem.boot_len (pa_cons (pv 2) pa_nil)) pa_nil)))))
 (pss_one (ps_never)) pss_nil)
 (pss_cons (ps_asg (pe_kf (kp_settled T) hA hr (by rfl) (pa_cons (pv 1) (pa_cons (pv 2) pa_nil))) (pg_tup rfl (pgs_cons (pg_name (i := 3) sc_init.nd rfl (Or.inl rfl)) (pgs_cons (pg_name (i := 4) sc_init.nd rfl (Or.inl rfl)) pgs_nil))))
 (pss_cons (ps_if (pt_cmpR op_gt (pe_callB call_len (by rfl) (T.nb _ (by decide)) PySem.boot_len (pa_cons (pv 3) pa_nil)) (pe_cst (by rfl) T.c_told) (nomark _))
 (pss_one (ps_never)) pss_nil)
 (pss_cons (ps_fld (pv 0) (pe_callTy call_tuple_of (by rfl) (T.nb _ (by decide)) (by decide +kernel) (pa_cons (pv 3) pa_nil)) rfl)
 (pss_one (ps_fld (pv 0) (pe_callTy call_tuple_of (by rfl) (T.nb _ (by decide)) (by decide +kernel) (pa_cons (pv 4) pa_nil)) rfl))))))), ?_⟩
    refine ⟨_, rfl, b, g, rfl, hb, g1, g2, fun H1 s1 => ?_⟩
    refine ⟨_, rfl, iteF ?_⟩
    have hb1 := hb.new s1
    refine ⟨_, rfl, _, rfl, _, _, rfl, hb1.len, a, t, _, rfl, SqS.new (.inl ha) s1, by rw [List.length_map]; omega, by omega, fun H2 s2 => ⟨_, rfl, iteF ?_⟩⟩
    have s12 := s1.trans s2
    refine ⟨_, rfl, _, rfl, a, b, t, g, rfl, sqL_same ha s12, hb.new s12, g1, g2, gt, by omega, fun p e x1 y1 z H3 hS s3 hz hx1 hy1 => ?_⟩
    refine ⟨z, _, rfl, SqT.of hz, rfl, ?_⟩
    refine ⟨_, _, rfl, _, _, rfl, rfl, ?_⟩
    refine ⟨_, rfl, _, _, rfl, len_lst hx1, _, _, rfl, rfl, _, rfl, ?_⟩
    have l1 : ¬ (4000 : Int) < (((t.take (e + p)).map vO).length : Int) := by
      rw [List.length_map, List.length_take]
      omega
    rw [decide_eq_false l1]
    refine iteF ?_
    have hx3 : H3 x = some (.ins (gC mg) dx []) := s3 _ _ (s12 _ _ hx)
    refine ⟨_, rfl, x1, _, rfl, .inl ⟨SqL.of hx1, fun t1 ht1 => ?_⟩⟩
    refine ⟨_, rfl, x, _, dx, [], rfl, upd_new ht1 hx3, TG.cls, TG.nT, by show 0 < 1000; decide, ?_⟩
    have nx (b : Addr) (o : HO) (n : b ≠ x) (z : H3 b = some o) : upd (upd H3 t1 (.tup ((t.take (e + p)).map vO))) x (.ins (gC mg) dx (putF "told" (.ref t1) [])) b = some o :=
      upd_oth n (upd_new ht1 z)
    have ny : y1 ≠ x := by
      intro z
      rw [z, hx3] at hy1
      cases hy1
    have nt1 : t1 ≠ x := by
      intro z
      rw [z, hx3] at ht1
      cases ht1
    refine ⟨_, rfl, y1, _, rfl, .inl ⟨SqL.of (nx y1 _ ny hy1), fun t2 ht2 => ?_⟩⟩
    have nt2 : t2 ≠ x := by
      intro z
      rw [z, upd_same] at ht2
      cases ht2
    refine ⟨_, rfl, x, _, dx, _, rfl, upd_new ht2 upd_same, TG.cls, TG.nG, by show 1 < 1000; decide, ?_⟩
    refine k p e _ (fun b hb o hbo => upd_oth hb (upd_new ht2 (nx b o hb (s3 _ _ (s12 _ _ hbo))))) ⟨dx, t1, t2, hS, upd_same, ?_, ?_⟩
    · exact upd_oth nt1 (upd_new ht2 (upd_oth nt1 upd_same))
    · exact upd_oth nt2 upd_same
/-- the state of a growth's parts, read through its attributes -/
theorem GrowAt.same {C : Addr} {H H' : Hp} {x : Addr} {T : List (Option Int)} {G : List Int} {p e : Nat} (h : GrowAt C H x T G p e) (s : Same H H') : GrowAt C H' x T G p e := by
  obtain ⟨dx, t, g, h1, h2, h3, h4⟩ := h
  exact ⟨dx, t, g, h1, s _ _ h2, s _ _ h3, s _ _ h4⟩
/-- the lasting gains of the normal form -/
def lastN (T : List (Option Int)) (G : List Int) (p e : Nat) : List Int := lastG (T.take (e + p)) (least T G p)
/-- what was read is read again -/
def tIn (a : Addr) (H1 : Hp) : TE := fun _ _ R => R (.ref a) H1
theorem tlc_listF {xs : List V} {tl : TE} {r : Nat → V → Option V} {g : TG} {tt : TT} {te : TE} {vs : List Nat} {σ : St} {H : Hp} {Q : VK}
    (htl : ∀ R : VK, (∀ q H1, SqL K H1 q xs → Same H H1 → R (.ref q) H1) → tl σ H R) (hz : xs.length ≤ sizeLine)
    (ht : ∀ i x H', xs[i]? = some x → Same H H' → Pure1 r g tt te vs σ i x H')
    (hQ : ∀ H1 D, Same H H1 → H1 D = none → Q (.ref D) (upd H1 D (.lst (fm r 0 xs)))) : tLc (iList K tl) g tt te vs σ H Q :=
  htl _ fun q H1 hs s1 => (tlc_list (tl := tIn q H1) hs hz (fun R h => h) (fun i x H' hx s2 => ht i x H' hx (s1.trans s2)) (fun D hD => hQ H1 D s1 hD) :
    tLc (iList K (tIn q H1)) g tt te vs σ H1 Q)
theorem int_at {ts : List Int} {i : Nat} {x : V} (hx : (ts.map V.int)[i]? = some x) : ∃ o, ts[i]? = some o ∧ x = .int o := by
  rw [List.getElem?_map] at hx
  cases e : ts[i]? with
  | none => rw [e] at hx; cases hx
  | some n => rw [e] at hx; exact ⟨n, rfl, (Option.some.inj hx).symm⟩
def posV : V → V
  | .int g => .bl (decide (0 < g))
  | x => x
theorem sz4 {n : Nat} (h : n ≤ 4000) : n ≤ sizeLine := Nat.le_trans h (by decide)
theorem lastG_len (T : List (Option Int)) (G : List Int) : (lastG T G).length ≤ G.length :=
  Nat.le_trans (List.length_filterMap_le _ _) (by rw [List.length_range]; exact Nat.le_refl _)
def spEndless (C : Addr) : Sp := fun vs H Q _ => ∃ (x : Addr) (T : List (Option Int)) (G : List Int) (p e : Nat), vs = [.ref x] ∧ GrowAt C H x T G p e ∧
  1 ≤ G.length ∧ G.length ≤ 60 ∧ G.length ≤ T.length ∧ T.length ≤ 4000 ∧
  ∀ (H' : Hp), Same H H' → Q (.bl ((lastN T G p e).any fun g => decide (0 < g))) H'
theorem SetAt.p1 {T : List (Option Int)} {G : List Int} {p e : Nat} (h : SetAt T G p e) (g1 : 1 ≤ G.length) (gt : G.length ≤ T.length) :
    1 ≤ p ∧ p ≤ G.length ∧ e + p ≤ T.length ∧ (T.take (e + p)).length = e + p ∧ (least T G p).length = p := by
  have h1 := h.lp.1
  have h2 := h.lp.2.1
  have h3 := h.le
  rw [List.length_drop] at h2
  refine ⟨h1, by omega, by omega, by rw [List.length_take]; omega, ?_⟩
  unfold least
  rw [List.length_map, List.length_range]
theorem kp_endless (TG : TxG K mg) : Kpr P w K mg base (gC mg) 2 "is_endless" (spEndless (gC mg)) := by
  have T := TG.T
  obtain ⟨p, g, fd, hp, F, b0⟩ := TG.pE
  refine ⟨p, g, fd, hp, b0, F.okM sc_endless (fun vs H Q E h => ?_) (fun f cdv A outer s H vs Q E hA hr h => ?_)⟩
  · obtain ⟨x, t, g, p, e, rfl, _⟩ := h
    rfl
  · obtain ⟨x, t, g, p, e, rfl, ⟨dx, a, b, hS, hx, ha, hb⟩, g1, g2, gt, big, k⟩ := h
    obtain ⟨p1, p2, p3, p4, p5⟩ := hS.p1 g1 gt
    refine ⟨_, (pss_one (ps_ret (pe_callB (cr_any rfl) (by rfl) (T.nb _ (by decide)) (by decide +kernel) (pa_cons (pe_lc (own := [("gain", 1)]) (g := gName 1) (tt := tYes) rfl sc_endless.nd (pi_list (pe_kf (kp_lasting T) hA hr (by rfl) (pa_cons (pe_fld (pv 0) rfl) (pa_cons (pe_fld (pv 0) rfl) pa_nil)))) (blkOk_by (N := n_endless) (sc := defScope s_endless) (by decide +kernel)) (fun _ _ _ _ _ => pg_name (i := 1) sc_endless.nd rfl (Or.inl rfl)) (fun _ _ _ _ _ => pts_nil) (fun _ _ _ _ _ => (pe_cmpR op_gt (pv 1) (pe_int) (nomark _)))) pa_nil)))), ?_⟩
    dsimp only [tNext, tRet, tCB, tCons]
    refine ⟨_, rfl, x, gC mg, dx, _, _, rfl, hx, TG.cls, TG.nT, rfl, _, rfl, x, gC mg, dx, _, _, rfl, hx, TG.cls, TG.nG, rfl, a, b, t.take (e + p), least t g p, rfl,
      .inr (SqT.of ha), .inr (SqT.of hb), by omega, by omega, by omega, fun q hq => ?_⟩
    have s1 : Same H (upd H q (.lst ((lastN t g p e).map V.int))) := Same.new hq
    have sl : (lastN t g p e).length ≤ 60 := Nat.le_trans (lastG_len _ _) (by omega)
    show tLc (iList K (tIn q (upd H q (.lst ((lastN t g p e).map V.int))))) (gName 1) tYes (tOp (rI0 fun i j => V.bl (decide (j < i))) (tVar 1) (tC (V.int 0)))
      [1] [some (.ref x), none] (upd H q (.lst ((lastN t g p e).map V.int))) (fun v H2 => rAny K [v] H2 Q)
    refine tlc_list (r := fun _ x => some (posV x)) (SqL.of upd_same) (by rw [List.length_map]; exact sz4 (by omega)) (fun R h => h) ?_ ?_
    · intro i x H' hx _ Ky Kn hy _
      obtain ⟨n, _, rfl⟩ := int_at hx
      refine ⟨rfl, yes_run ?_⟩
      exact ⟨_, rfl, _, _, rfl, rfl, hy _ rfl⟩
    · intro D hD
      rw [fm_map posV _ (fun _ _ => rfl)]
      refine ⟨D, ((lastN t g p e).map fun g => decide (0 < g)), rfl, ?_, ?_⟩
      · rw [List.map_map, List.map_map]
        exact SqL.of upd_same
      · have s2 : Same H (upd (upd H q (.lst ((lastN t g p e).map V.int))) D (.lst (((lastN t g p e).map V.int).map posV))) := s1.trans (Same.new hD)
        have := k _ s2
        rw [List.any_map]
        exact this
/-- the told ones that are numbers -/
def nums (T : List (Option Int)) : List Int := T.filterMap id
def spGreatest (C : Addr) : Sp := fun vs H Q _ => ∃ (x : Addr) (T : List (Option Int)) (G : List Int) (p e : Nat), vs = [.ref x] ∧ GrowAt C H x T G p e ∧
  1 ≤ G.length ∧ G.length ≤ 60 ∧ G.length ≤ T.length ∧ T.length ≤ 4000 ∧
  ∀ (H' : Hp), Same H H' → (((lastN T G p e).any fun g => decide (0 < g)) = true → Q .non H') ∧
    (((lastN T G p e).any fun g => decide (0 < g)) = false → (nums (T.take (e + p)) = [] → Q .non H') ∧
      ∀ m ∈ nums (T.take (e + p)), (∀ y ∈ nums (T.take (e + p)), y ≤ m) → Q (.int m) H')
theorem fm_nums : ∀ (ts : List (Option Int)) (k : Nat),
    fm (fun _ x => match x with | V.int n => some (V.int n) | _ => none) k (ts.map vO) = (nums ts).map V.int
  | [], _ => rfl
  | o :: ts, k => by
    rw [List.map_cons]
    unfold fm
    rw [fm_nums ts (k + 1)]
    cases o <;> simp [nums, vO]
theorem kp_greatest (TG : TxG K mg) : Kpr P w K mg base (gC mg) 4 "greatest" (spGreatest (gC mg)) := by
  have T := TG.T
  obtain ⟨p, g, fd, hp, F, b0⟩ := TG.pG
  refine ⟨p, g, fd, hp, b0, F.okM sc_greatest (fun vs H Q E h => ?_) (fun f cdv A outer s H vs Q E hA hr h => ?_)⟩
  · obtain ⟨x, t, g, p, e, rfl, _⟩ := h
    rfl
  · obtain ⟨x, t, g, p, e, rfl, hG, g1, g2, gt, big, k⟩ := h
    have hG0 := hG
    obtain ⟨dx, a, b, hS, hx, ha, hb⟩ := hG
    obtain ⟨p1, p2, p3, p4, p5⟩ := hS.p1 g1 gt
    refine ⟨_, (pss_cons (ps_if (pt_val (pe_kpr (kp_endless TG) TG.cls hr (pv 0)))
 (pss_one (ps_ret (pe_non))) pss_nil)
 (pss_one (ps_ret (pe_callBK (cr_maxD rfl hr.units) (by rfl) (T.nb _ (by decide)) (by decide +kernel) (pa_cons (pe_lc (own := [("value", 1)]) (g := gName 1) rfl sc_greatest.nd (pi_tup (pe_fld (pv 0) rfl)) (blkOk_by (N := n_greatest) (sc := defScope s_greatest) (by decide +kernel)) (fun _ _ _ _ _ => pg_name (i := 1) sc_greatest.nd rfl (Or.inl rfl)) (fun _ _ _ _ _ => (pts_one (pt_cmpR op_notN (pv 1) (pe_non) (nomark _)))) (fun _ _ _ _ _ => (pe_callTy call_intI (by rfl) (T.nb _ (by decide)) (by decide +kernel) (pa_cons (pv 1) pa_nil)))) pa_nil) (pk_cons pe_non pk_nil))))), ?_⟩
    refine ⟨_, rfl, x, dx, _, rfl, hx, x, t, g, p, e, rfl, hG0, g1, g2, gt, big, fun H1 s1 => ⟨_, rfl, ?_⟩⟩
    refine ite2 (fun c => (k H1 s1).1 c) (fun c => ?_)
    have c' := Bool.eq_false_iff.mpr c
    dsimp only [tNext, tRet, tCKw, tCons]
    have hx1 := s1 _ _ hx
    refine tlc_tup (r := fun _ x => match x with | V.int n => some (V.int n) | _ => none) (SqT.of (s1 _ _ ha)) (by rw [List.length_map]; exact sz4 (by omega))
      (fun R h => ⟨_, rfl, x, gC mg, dx, _, _, rfl, hx1, TG.cls, TG.nT, rfl, h⟩) ?_ ?_
    · intro i x H' hx _ Ky Kn hy hn
      obtain ⟨o, _, rfl⟩ := opt_at hx
      cases o with
      | none => exact ⟨rfl, _, rfl, rfl, _, rfl, iteF (hn rfl)⟩
      | some n => exact ⟨rfl, _, rfl, rfl, _, rfl, iteT ⟨_, rfl, n, rfl, hy _ rfl⟩⟩
    · intro D hD
      rw [fm_nums]
      have s2 : Same H (upd H1 D (.lst ((nums (t.take (e + p))).map V.int))) := s1.trans (Same.new hD)
      exact ⟨D, _, .non, rfl, rfl, upd_same, ((k _ s2).2 c').1, ((k _ s2).2 c').2⟩
def gcdI (m : Int) (p : Nat) : Int := ((Nat.gcd m.natAbs p : Nat) : Int)
def spSlope (C : Addr) : Sp := fun vs H Q _ => ∃ (x : Addr) (T : List (Option Int)) (G : List Int) (p e : Nat), vs = [.ref x] ∧ GrowAt C H x T G p e ∧
  1 ≤ G.length ∧ G.length ≤ 60 ∧ G.length ≤ T.length ∧ T.length ≤ 4000 ∧
  ((lastN T G p e) = [] → ∀ H', Same H H' → Q .non H') ∧
  ∀ m ∈ lastN T G p e, (∀ y ∈ lastN T G p e, y ≤ m) → ∀ (q : Addr) (H' : Hp), H q = none → Same H H' →
    H' q = some (.tup [.int (m.fdiv (gcdI m p)), .int ((p : Int).fdiv (gcdI m p))]) → Q (.ref q) H'
theorem kp_slope (TG : TxG K mg) : Kpr P w K mg base (gC mg) 2 "slope" (spSlope (gC mg)) := by
  have T := TG.T
  obtain ⟨p, g, fd, hp, F, b0⟩ := TG.pS
  refine ⟨p, g, fd, hp, b0, F.okM sc_slope (fun vs H Q E h => ?_) (fun f cdv A outer s H vs Q E hA hr h => ?_)⟩
  · obtain ⟨x, t, g, p, e, rfl, _⟩ := h
    rfl
  · obtain ⟨x, t, g, p, e, rfl, ⟨dx, a, b, hS, hx, ha, hb⟩, g1, g2, gt, big, k0, k⟩ := h
    obtain ⟨p1, p2, p3, p4, p5⟩ := hS.p1 g1 gt
    refine ⟨_, (pss_cons (ps_set (i := 1) sc_slope.nd rfl (Or.inl rfl) (pe_callBK (cr_maxD rfl hr.units) (by rfl) (T.nb _ (by decide)) (by decide +kernel) (pa_cons (pe_lc (own := [("gain", 1)]) (g := gName 1) (tt := tYes) rfl sc_slope.nd (pi_list (pe_kf (kp_lasting T) hA hr (by rfl) (pa_cons (pe_fld (pv 0) rfl) (pa_cons (pe_fld (pv 0) rfl) pa_nil)))) (blkOk_by (N := n_slope) (sc := defScope s_slope) (by decide +kernel)) (fun _ _ _ _ _ => pg_name (i := 1) sc_slope.nd rfl (Or.inl rfl)) (fun _ _ _ _ _ => pts_nil) (fun _ _ _ _ _ => (pe_callTy call_intI (by rfl) (T.nb _ (by decide)) (by decide +kernel) (pa_cons (pv 1) pa_nil)))) pa_nil) (pk_cons pe_non pk_nil)))
 (pss_cons (ps_if (pt_cmpR op_isN (pv 1) (pe_non) (nomark _))
 (pss_one (ps_ret (pe_non))) pss_nil)
 (pss_cons (ps_set (i := 2) sc_slope.nd rfl (Or.inl rfl) (pe_callBfun cr_gcd (by rfl) TG.mgG (pa_cons (pv 1) (pa_cons (pe_callB call_len (by rfl) (T.nb _ (by decide)) PySem.boot_len (pa_cons (pe_fld (pv 0) rfl) pa_nil)) pa_nil))))
 (pss_one (ps_ret (pe_tup (pa_cons (pe_op op_fdivN (pv 1) (pv 2)) (pa_cons (pe_op op_fdivN (pe_callB call_len (by rfl) (T.nb _ (by decide)) PySem.boot_len (pa_cons (pe_fld (pv 0) rfl) pa_nil)) (pv 2)) pa_nil)))))))), ?_⟩
    dsimp only [tSeq, tAsg, tNext, tRet, tCKw, tCons]
    have sl : (lastN t g p e).length ≤ 60 := Nat.le_trans (lastG_len _ _) (by omega)
    refine tlc_listF (r := fun _ x => some x) (xs := (lastN t g p e).map V.int)
      (fun R h => ⟨_, rfl, x, gC mg, dx, _, _, rfl, hx, TG.cls, TG.nT, rfl, _, rfl, x, gC mg, dx, _, _, rfl, hx, TG.cls, TG.nG, rfl, a, b, t.take (e + p), least t g p, rfl,
        .inr (SqT.of ha), .inr (SqT.of hb), by omega, by omega, by omega, fun q hq => h q _ (SqL.of upd_same) (Same.new hq)⟩)
      (by rw [List.length_map]; exact sz4 (by omega)) ?_ ?_
    · intro i x H' hx _ Ky Kn hy _
      obtain ⟨n, _, rfl⟩ := int_at hx
      refine ⟨rfl, yes_run ?_⟩
      exact ⟨_, rfl, n, rfl, hy _ rfl⟩
    · intro H1 D s1 hD
      have ef : fm (fun _ x => some x) 0 ((lastN t g p e).map V.int) = (lastN t g p e).map V.int :=
        (fm_map (fun x => x) _ (fun _ _ => rfl) _ _).trans (List.map_id' _)
      rw [ef]
      have s2 : Same H (upd H1 D (.lst ((lastN t g p e).map V.int))) := s1.trans (Same.new hD)
      refine ⟨D, _, .non, rfl, rfl, upd_same, fun h0 => ?_, fun m hm hle => ?_⟩
      · refine ⟨_, rfl, rfl, _, rfl, ?_⟩
        refine iteT (k0 h0 _ s2)
      · refine ⟨_, rfl, rfl, _, rfl, ?_⟩
        refine iteF ?_
        refine ⟨_, rfl, _, rfl, x, gC mg, dx, _, _, rfl, s2 _ _ hx, TG.cls, TG.nG, rfl, _, _, rfl, len_tup (s2 _ _ hb), m, _, rfl, ?_⟩
        have eg : ((m.natAbs.gcd ((((least t g p).map V.int).length : Int)).natAbs : Nat) : Int) = gcdI m p := by
          rw [List.length_map, p5]
          rfl
        rw [eg]
        have d1 : 1 ≤ gcdI m p := by
          have : 0 < Nat.gcd m.natAbs p := Nat.gcd_pos_of_pos_right _ (by omega)
          show (1 : Int) ≤ ((Nat.gcd m.natAbs p : Nat) : Int)
          omega
        have d2 : gcdI m p ≤ 60 := by
          have : Nat.gcd m.natAbs p ≤ p := Nat.gcd_le_right _ (by omega)
          show ((Nat.gcd m.natAbs p : Nat) : Int) ≤ 60
          omega
        refine ⟨_, rfl, _, rfl, _, _, rfl, rfl, ⟨by omega, by omega⟩, ?_⟩
        refine ⟨_, rfl, x, gC mg, dx, _, _, rfl, s2 _ _ hx, TG.cls, TG.nG, rfl, _, _, rfl, len_tup (s2 _ _ hb), _, rfl, _, _, rfl, rfl, ⟨by omega, by omega⟩,
          (by show 2 ≤ sizeLine; decide), fun q hq => ?_⟩
        refine k m hm hle q _ (s2.free hq) (s2.trans (Same.new hq)) ?_
        rw [upd_same, List.length_map, p5]
/-- a growth of one value that doesn't climb, or of two parts told -/
def spMade (C : Addr) (f : List V → Option (List (Option Int) × List Int)) : Sp := fun vs H Q _ => ∃ T G, f vs = some (T, G) ∧
  ∀ (x : Addr) (p e : Nat) (H' : Hp), H x = none → Same H H' → GrowAt C H' x T G p e → Q (.ref x) H'
def fConst : List V → Option (List (Option Int) × List Int)
  | [.int k] => some ([some k], [0])
  | _ => none
def fRamp : List V → Option (List (Option Int) × List Int)
  | [.int g, .int b] => some ([some b], [g])
  | _ => none
def fNone : List V → Option (List (Option Int) × List Int)
  | [] => some ([none], [0])
  | _ => none
theorem made_len {C : Addr} {f : List V → Option (List (Option Int) × List Int)} {n : Nat} (hf : ∀ vs r, f vs = some r → vs.length = n) :
    ∀ vs H Q E, spMade C f vs H Q E → vs.length = n := by
  rintro vs H Q E ⟨T, G, h, _⟩
  exact hf _ _ h
theorem upd_oth' {H : Hp} {a b : Addr} {o : HO} (h : b ≠ a) : upd H a o b = H b := by
  unfold upd
  rw [if_neg h]
theorem made_same {H H1 H' : Hp} {x dx : Addr} {o1 o2 : HO} (s : Same H H1) (hx : H1 x = none) (hdx : H1 dx = none)
    (hb : But x (upd (upd H1 dx o1) x o2) H') : H x = none ∧ Same H H' := by
  refine ⟨s.free hx, fun b o h => ?_⟩
  have h1 := s _ _ h
  have n1 : b ≠ x := by
    intro z
    rw [z, hx] at h1
    cases h1
  exact hb b n1 o (upd_oth n1 (upd_new hdx h1))
theorem kp_constant (TG : TxG K mg) : Ksm P w K mg base (gC mg) 6 "constant" ["k"] [] (spMade (gC mg) fConst) := by
  have T := TG.T
  obtain ⟨g, fd, S, F, b0⟩ := TG.sC
  refine ⟨g, fd, [], S, .nil, b0, F.okM sc_constant (made_len fun vs r h => ?_) (fun f cdv A outer s H vs Q E hA hr h => ?_)⟩
  · unfold fConst at h
    split at h
    · rfl
    · cases h
  · obtain ⟨t, g, h, k⟩ := h
    unfold fConst at h
    split at h
    · rename_i i
      cases h
      refine ⟨_, (pss_cons (ps_if (pt_not (pt_val (pe_kf (kp_is_integer T) hA hr (by rfl) (pa_cons (pv 0) pa_nil))))
 (pss_one (ps_never)) pss_nil)
 (pss_one (ps_ret (pe_kmk1 (kp_init TG) hr (by rfl) TG.mgC (pa_cons (pe_lst (pa_cons (pv 0) pa_nil)) pa_nil) (fun σ H Q Q' h ⟨v, e, l, z⟩ => ⟨v, e, l, fun p hp => h _ _ (z p hp)⟩))))), ?_⟩
      refine ⟨_, rfl, i, rfl, _, rfl, iteF ?_⟩
      refine ⟨_, rfl, (by show 1 ≤ sizeLine; decide), fun l hl => fun x dx d hx hdx ne hd => ?_⟩
      obtain ⟨a, rfl, ht⟩ := hd
      have hL : upd (upd (upd H l (.lst [.int i])) dx (.own x)) x (.ins (gC mg) dx []) l = some (.lst [.int i]) :=
        upd_new (by rw [upd_oth' ne.symm]; exact hx) (upd_new hdx upd_same)
      exact ⟨x, dx, l, a, [some i], [0], rfl, upd_same, SqL.of hL, .inr (ht _), Nat.le_of_ble_eq_true rfl, Nat.le_of_ble_eq_true rfl, Nat.le_of_ble_eq_true rfl, Nat.le_of_ble_eq_true rfl,
        fun p e H' hb hg => have z := made_same (Same.new hl) hx hdx hb
          ⟨rfl, k x p e H' z.1 z.2 hg⟩⟩
    · cases h
theorem kp_gnone (TG : TxG K mg) : Ksm P w K mg base (gC mg) 6 "none" [] [] (spMade (gC mg) fNone) := by
  have T := TG.T
  obtain ⟨g, fd, S, F, b0⟩ := TG.sN
  refine ⟨g, fd, [], S, .nil, b0, F.okM sc_gnone (made_len fun vs r h => ?_) (fun f cdv A outer s H vs Q E hA hr h => ?_)⟩
  · unfold fNone at h
    split at h
    · rfl
    · cases h
  · obtain ⟨t, g, h, k⟩ := h
    unfold fNone at h
    split at h
    · cases h
      refine ⟨_, (pss_one (ps_ret (pe_kmk1 (kp_init TG) hr (by rfl) TG.mgC (pa_cons (pe_lst (pa_cons (pe_non) pa_nil)) pa_nil) (fun σ H Q Q' h ⟨l, z⟩ => ⟨l, fun p hp => h _ _ (z p hp)⟩)))), ?_⟩
      refine ⟨(by show 1 ≤ sizeLine; decide), fun l hl => fun x dx d hx hdx ne hd => ?_⟩
      obtain ⟨a, rfl, ht⟩ := hd
      have hL : upd (upd (upd H l (.lst [.non])) dx (.own x)) x (.ins (gC mg) dx []) l = some (.lst [.non]) :=
        upd_new (by rw [upd_oth' ne.symm]; exact hx) (upd_new hdx upd_same)
      exact ⟨x, dx, l, a, [none], [0], rfl, upd_same, SqL.of hL, .inr (ht _), Nat.le_of_ble_eq_true rfl, Nat.le_of_ble_eq_true rfl, Nat.le_of_ble_eq_true rfl, Nat.le_of_ble_eq_true rfl,
        fun p e H' hb hg => have z := made_same (Same.new hl) hx hdx hb
          ⟨rfl, k x p e H' z.1 z.2 hg⟩⟩
    · cases h
theorem ramp_run (TG : TxG K mg) {g : Addr} {fd : FuncData} (F : MD K "ramp" "Growth.ramp" s_ramp [.int 0] g fd) :
    FnOk P w K mg base CX0 6 g fd ["gain", "begin"] (spMade (gC mg) fRamp) := by
  have T := TG.T
  refine F.okM sc_ramp (made_len fun vs r h => ?_) (fun f cdv A outer s H vs Q E hA hr h => ?_)
  · unfold fRamp at h
    split at h
    · rfl
    · cases h
  · obtain ⟨t, g, h, k⟩ := h
    unfold fRamp at h
    split at h
    · rename_i gn bg
      cases h
      refine ⟨_, (pss_cons (ps_if (pt_not (pt_val (pe_kf (kp_is_integer T) hA hr (by rfl) (pa_cons (pv 0) pa_nil))))
 (pss_one (ps_never)) pss_nil)
 (pss_cons (ps_if (pt_not (pt_val (pe_kf (kp_is_integer T) hA hr (by rfl) (pa_cons (pv 1) pa_nil))))
 (pss_one (ps_never)) pss_nil)
 (pss_one (ps_ret (pe_kmk (kp_init TG) hr (by rfl) TG.mgC (pa_cons (pe_lst (pa_cons (pv 1) pa_nil)) (pa_cons (pe_lst (pa_cons (pv 0) pa_nil)) pa_nil))))))), ?_⟩
      refine ⟨_, rfl, gn, rfl, _, rfl, iteF ?_⟩
      refine ⟨_, rfl, bg, rfl, _, rfl, iteF ?_⟩
      refine ⟨_, rfl, (by show 1 ≤ sizeLine; decide), fun l hl => ⟨_, rfl, (by show 1 ≤ sizeLine; decide), fun l2 hl2 => fun x dx hx hdx ne => ?_⟩⟩
      have fx : ∀ u : HO, upd (upd (upd H l (.lst [.int bg])) l2 (.lst [.int gn])) dx u x = none := fun u => by rw [upd_oth' ne.symm]; exact hx
      have hL2 : upd (upd (upd (upd H l (.lst [.int bg])) l2 (.lst [.int gn])) dx (.own x)) x (.ins (gC mg) dx []) l2 = some (.lst [.int gn]) :=
        upd_new (fx _) (upd_new hdx upd_same)
      have hL : upd (upd (upd (upd H l (.lst [.int bg])) l2 (.lst [.int gn])) dx (.own x)) x (.ins (gC mg) dx []) l = some (.lst [.int bg]) :=
        upd_new (fx _) (upd_new hdx (upd_new hl2 upd_same))
      exact ⟨x, dx, l, l2, [some bg], [gn], rfl, upd_same, SqL.of hL, .inl (SqL.of hL2), Nat.le_of_ble_eq_true rfl, Nat.le_of_ble_eq_true rfl, Nat.le_of_ble_eq_true rfl, Nat.le_of_ble_eq_true rfl,
        fun p e H' hb hg => have z := made_same ((Same.new hl).trans (Same.new hl2)) hx hdx hb
          ⟨rfl, k x p e H' z.1 z.2 hg⟩⟩
    · cases h
theorem kp_ramp (TG : TxG K mg) : Ksm P w K mg base (gC mg) 6 "ramp" ["gain", "begin"] [] (spMade (gC mg) fRamp) := by
  obtain ⟨g, fd, S, F, b0, b1⟩ := TG.sR
  exact ⟨g, fd, [], S, .nil, b0, ramp_run TG F⟩
theorem kp_ramp0 (TG : TxG K mg) : Ksm P w K mg base (gC mg) 6 "ramp" ["gain", "begin"] [.int 0] (spMade (gC mg) fRamp) := by
  obtain ⟨g, fd, S, F, b0, ds, hd, b1⟩ := TG.sR
  exact ⟨g, fd, ds, S, hd, b1, ramp_run TG F⟩
end
end KG
namespace KG
open PySem L2
theorem climbs_sv {T : List (Option Int)} {G : List Int} {k : Nat} (h : k < G.length) : sv (climbs T G) k = climb T G k := sv_range _ h
theorem least_sv {T : List (Option Int)} {G : List Int} {p r : Nat} (h : r < p) : sv (least T G p) r = lst1 T G p r := sv_range _ h
theorem fmod_nat {n b p : Nat} (h : b ≤ n) (hp : 0 < p) : ((((n % p : Nat) : Int) - (b : Int)).fmod (p : Int)).toNat = (n - b) % p := by
  have e1 : (((n % p : Nat) : Int) - (b : Int)).fmod (p : Int) = (((n - b) % p : Nat) : Int) := by
    rw [Int.fmod_eq_emod_of_nonneg _ (by omega)]
    have e2 : (((n - b) % p : Nat) : Int) = ((n : Int) - (b : Int)) % (p : Int) := by
      rw [Int.natCast_emod]
      congr 1
      omega
    rw [e2, Int.natCast_emod, Int.emod_sub_emod]
  rw [e1, Int.toNat_natCast]
section
variable {T : List (Option Int)} {G : List Int} {p e : Nat}
/-- the least gain at a rest of the tail -/
theorem least_at (hp : 0 < p) {n : Nat} (h : T.length - G.length ≤ n) :
    sv (least T G p) (n % p) = (sv (climbs T G) ((n - (T.length - G.length)) % p) * (p : Int)).fdiv (G.length : Int) := by
  rw [least_sv (Nat.mod_lt _ hp)]
  unfold lst1
  rw [fmod_nat h hp]
theorem per_mod (hS : SetAt T G p e) (g1 : 1 ≤ G.length) (gt : G.length ≤ T.length) {k : Nat} (hk : k < G.length) :
    sv (climbs T G) k = sv (climbs T G) (k % p) ∧ (tv T (T.length - G.length + k) = none ↔ tv T (T.length - G.length + k % p) = none) := by
  obtain ⟨p1, p2, p3, p4, p5⟩ := hS.p1 g1 gt
  have dl : (T.drop (T.length - G.length)).length = G.length := by
    rw [List.length_drop]
    omega
  induction k using Nat.strongRecOn with
  | _ k ih =>
    rcases Nat.lt_or_ge k p with z | z
    · rw [Nat.mod_eq_of_lt z]
      exact ⟨rfl, Iff.rfl⟩
    · rcases hS.lp.2.2.2.1 with q | q
      · omega
      · have h1 := q (k - p) (by omega)
        have h2 := ih (k - p) (by omega) (by omega)
        have e1 : k - p + p = k := by omega
        have e2 : k % p = (k - p) % p := by
          rw [← Nat.add_mod_right (k - p) p, e1]
        unfold PerAt at h1
        rw [e1, tv_drop, tv_drop] at h1
        rw [e2]
        exact ⟨h1.2.1.symm.trans h2.1, h1.1.symm.trans h2.2⟩
/-- the least gains times the parts -/
theorem least_mul (hS : SetAt T G p e) (g1 : 1 ≤ G.length) (gt : G.length ≤ T.length) {k : Nat} (hk : k < p)
    (hn : tv T (T.length - G.length + k) ≠ none) :
    (sv (climbs T G) k * (p : Int)).fdiv (G.length : Int) * (G.length : Int) = sv (climbs T G) k * (p : Int) := by
  obtain ⟨p1, p2, p3, p4, p5⟩ := hS.p1 g1 gt
  have dl : (T.drop (T.length - G.length)).length = G.length := by
    rw [List.length_drop]
    omega
  have gz : (G.length : Int) ≠ 0 := by omega
  have h3 := hS.lp.2.2.1
  rw [dl] at h3
  obtain ⟨m, hm⟩ := h3
  have hpm : ((p : Int) * (m : Int)) = (G.length : Int) := by
    rw [hm]
    exact (Int.natCast_mul p m).symm
  rcases hS.lp.2.2.2.1 with q | q
  · rw [dl] at q
    subst q
    rw [Int.mul_fdiv_cancel _ gz]
  · rcases Nat.lt_or_ge p G.length with z | z
    · have m2 : 2 ≤ m := by
        rcases Nat.lt_or_ge m 2 with y | y
        · have : m = 0 ∨ m = 1 := by omega
          rcases this with y | y
          · subst y
            omega
          · subst y
            omega
        · exact y
      have : p * 2 ≤ G.length := by
        rw [hm]
        exact Nat.mul_le_mul_left _ m2
      have h1 := q k (by omega)
      unfold PerAt at h1
      rw [tv_drop, tv_drop] at h1
      have dm : G.length / p = m := by
        rw [hm]
        exact Nat.mul_div_cancel_left _ (by omega)
      rw [dl, dm] at h1
      cases e1 : tv T (T.length - G.length + k) with
      | none => exact absurd e1 hn
      | some i =>
        cases e2 : tv T (T.length - G.length + (k + p)) with
        | none => exact absurd (h1.1.mpr e2) hn
        | some j =>
          have h2 := h1.2.2 i j e1 e2
          rw [← h2]
          have e3 : (j - i) * (m : Int) * (p : Int) = (j - i) * (G.length : Int) := by
            rw [Int.mul_assoc, Int.mul_comm (m : Int), hpm]
          rw [e3, Int.mul_fdiv_cancel _ gz]
    · have : p = G.length := by omega
      subst this
      rw [Int.mul_fdiv_cancel _ gz]
/-- one period on -/
theorem step (hS : SetAt T G p e) (g1 : 1 ≤ G.length) (gt : G.length ≤ T.length) {n : Nat} (h1 : e ≤ n) (h2 : n + p < T.length) :
    (tv T n = none ↔ tv T (n + p) = none) ∧ ∀ i j, tv T n = some i → tv T (n + p) = some j → j = i + sv (least T G p) (n % p) := by
  obtain ⟨p1, p2, p3, p4, p5⟩ := hS.p1 g1 gt
  have dl : (T.drop (T.length - G.length)).length = G.length := by
    rw [List.length_drop]
    omega
  rcases Nat.lt_or_ge n (T.length - G.length) with z | z
  · have h := hS.go n h1 z
    cases e1 : tv T n with
    | none =>
      rw [e1] at h
      cases e2 : tv T (n + p) with
      | none => exact ⟨⟨fun _ => rfl, fun _ => rfl⟩, fun i j a _ => by cases a⟩
      | some j =>
        rw [e2] at h
        cases h
    | some i =>
      rw [e1] at h
      have h3 : tv T (n + p) = some (i + sv (least T G p) (n % p)) := of_decide_eq_true h
      rw [h3]
      refine ⟨⟨fun a => (by cases a), fun a => (by cases a)⟩, fun i' j a b => ?_⟩
      cases a
      cases b
      rfl
  · rcases hS.lp.2.2.2.1 with q | q
    · omega
    · have h3 := q (n - (T.length - G.length)) (by omega)
      unfold PerAt at h3
      rw [tv_drop, tv_drop, show T.length - G.length + (n - (T.length - G.length)) = n by omega,
        show T.length - G.length + (n - (T.length - G.length) + p) = n + p by omega, dl] at h3
      refine ⟨h3.1, fun i j a b => ?_⟩
      have h4 := h3.2.2 i j a b
      have h5 := per_mod hS g1 gt (k := n - (T.length - G.length)) (by omega)
      have hk : (n - (T.length - G.length)) % p < p := Nat.mod_lt _ (by omega)
      have hne : tv T (T.length - G.length + (n - (T.length - G.length)) % p) ≠ none := by
        intro y
        have := h5.2.mpr y
        rw [show T.length - G.length + (n - (T.length - G.length)) = n by omega, a] at this
        cases this
      have h6 := least_mul hS g1 gt hk hne
      rw [least_at (by omega) z]
      rw [← h5.1] at h6 ⊢
      rw [← h4] at h6 ⊢
      have h7 := hS.lp.2.2.1
      rw [dl] at h7
      obtain ⟨m, hm⟩ := h7
      have dm : G.length / p = m := by
        rw [hm]
        exact Nat.mul_div_cancel_left _ (by omega)
      rw [dm] at h6 ⊢
      have hpm : ((p : Int) * (m : Int)) = (G.length : Int) := by
        rw [hm]
        exact (Int.natCast_mul p m).symm
      have e3 : (j - i) * (m : Int) * (p : Int) = (j - i) * (G.length : Int) := by
        rw [Int.mul_assoc, Int.mul_comm (m : Int), hpm]
      rw [e3, Int.mul_fdiv_cancel _ (by omega)]
      omega
theorem chain (hS : SetAt T G p e) (g1 : 1 ≤ G.length) (gt : G.length ≤ T.length) {n : Nat} (h1 : e ≤ n) :
    ∀ j, n + p * j < T.length → (tv T n = none ↔ tv T (n + p * j) = none)
  | 0, _ => Iff.rfl
  | j + 1, h => by
    have e1 : n + p * (j + 1) = n + p * j + p := by rw [Nat.mul_succ, Nat.add_assoc]
    rw [e1] at h ⊢
    exact (chain hS g1 gt h1 j (by omega)).trans (step hS g1 gt (by omega) h).1
theorem reduce (hS : SetAt T G p e) (g1 : 1 ≤ G.length) (gt : G.length ≤ T.length) {n : Nat} (h1 : e ≤ n) (h2 : n < T.length) :
    (e + (n - e) % p) % p = n % p ∧ (tv T n = none ↔ tv T (e + (n - e) % p) = none) := by
  have d := Nat.mod_add_div (n - e) p
  have en : n = e + (n - e) % p + p * ((n - e) / p) := by omega
  refine ⟨?_, ?_⟩
  · conv => rhs; rw [en]
    rw [Nat.add_mul_mod_self_left]
  · have := chain hS g1 gt (n := e + (n - e) % p) (by omega) ((n - e) / p) (by omega)
    rw [← en] at this
    exact this.symm
theorem tv_take {k m : Nat} (h : k < m) : tv (T.take m) k = tv T k := by
  simp [tv, List.getD_eq_getElem?_getD, List.getElem?_take, h]
theorem mem_lastG {x : Int} : x ∈ lastG T G ↔ ∃ i, i < G.length ∧ tv T (T.length - G.length + i) ≠ none ∧ x = sv G ((T.length - G.length + i) % G.length) := by
  unfold lastG
  rw [List.mem_filterMap]
  constructor
  · rintro ⟨i, hi, h⟩
    refine ⟨i, List.mem_range.mp hi, ?_⟩
    unfold lastAt at h
    cases e1 : tv T (T.length - G.length + i) with
    | none => rw [e1] at h; cases h
    | some v =>
      rw [e1] at h
      cases h
      exact ⟨(fun z => nomatch z), rfl⟩
  · rintro ⟨i, hi, hn, rfl⟩
    refine ⟨i, List.mem_range.mpr hi, ?_⟩
    unfold lastAt
    cases e1 : tv T (T.length - G.length + i) with
    | none => exact absurd e1 hn
    | some v => rfl
theorem mem_lastN (hS : SetAt T G p e) (g1 : 1 ≤ G.length) (gt : G.length ≤ T.length) {y : Int} :
    y ∈ lastN T G p e ↔ ∃ n, e ≤ n ∧ n < e + p ∧ tv T n ≠ none ∧ y = sv (least T G p) (n % p) := by
  obtain ⟨p1, p2, p3, p4, p5⟩ := hS.p1 g1 gt
  unfold lastN
  rw [mem_lastG, p4, p5, show e + p - p = e by omega]
  constructor
  · rintro ⟨i, hi, hn, rfl⟩
    rw [tv_take (by omega)] at hn
    exact ⟨e + i, by omega, by omega, hn, rfl⟩
  · rintro ⟨n, h1, h2, hn, rfl⟩
    refine ⟨n - e, by omega, ?_, ?_⟩
    · rw [tv_take (by omega), show e + (n - e) = n by omega]
      exact hn
    · rw [show e + (n - e) = n by omega]
theorem climb_some {k : Nat} (h : tv T (T.length - G.length + k) ≠ none) : climb T G k = sv G ((T.length - G.length + k) % G.length) := by
  unfold climb
  cases e1 : tv T (T.length - G.length + k) with
  | none => exact absurd e1 h
  | some v => rfl
theorem last_a (hS : SetAt T G p e) (g1 : 1 ≤ G.length) (gt : G.length ≤ T.length) {y : Int} (h : y ∈ lastN T G p e) :
    ∃ x ∈ lastG T G, x * (p : Int) = y * (G.length : Int) := by
  obtain ⟨p1, p2, p3, p4, p5⟩ := hS.p1 g1 gt
  obtain ⟨n, h1, h2, hn, rfl⟩ := (mem_lastN hS g1 gt).mp h
  have hle := hS.le
  have d := Nat.mod_add_div (T.length - G.length - n + (p - 1)) p
  have dm := Nat.mod_lt (T.length - G.length - n + (p - 1)) (show 0 < p by omega)
  obtain ⟨j, hj⟩ : ∃ j, T.length - G.length ≤ n + p * j ∧ n + p * j < T.length - G.length + p := by
    rcases Nat.lt_or_ge n (T.length - G.length) with z | z
    · exact ⟨(T.length - G.length - n + (p - 1)) / p, by omega, by omega⟩
    · exact ⟨0, by omega, by omega⟩
  have hc := chain hS g1 gt h1 j (by omega)
  have hn0 : tv T (T.length - G.length + (n + p * j - (T.length - G.length))) ≠ none := by
    rw [show T.length - G.length + (n + p * j - (T.length - G.length)) = n + p * j by omega]
    exact fun z => hn (hc.mpr z)
  refine ⟨climb T G (n + p * j - (T.length - G.length)), mem_lastG.mpr ⟨_, by omega, hn0, climb_some hn0⟩, ?_⟩
  have em : n % p = (n + p * j) % p := (Nat.add_mul_mod_self_left n p j).symm
  rw [em, least_at (by omega) hj.1, Nat.mod_eq_of_lt (show n + p * j - (T.length - G.length) < p by omega)]
  rw [least_mul hS g1 gt (by omega) hn0, climbs_sv (by omega)]
theorem last_b (hS : SetAt T G p e) (g1 : 1 ≤ G.length) (gt : G.length ≤ T.length) {x : Int} (h : x ∈ lastG T G) :
    ∃ y ∈ lastN T G p e, x * (p : Int) = y * (G.length : Int) := by
  obtain ⟨p1, p2, p3, p4, p5⟩ := hS.p1 g1 gt
  obtain ⟨i, hi, hn, rfl⟩ := mem_lastG.mp h
  have hle := hS.le
  have h5 := per_mod hS g1 gt hi
  have hk : i % p < p := Nat.mod_lt _ (by omega)
  have hn0 : tv T (T.length - G.length + i % p) ≠ none := fun z => hn (h5.2.mpr z)
  have hr := reduce hS g1 gt (n := T.length - G.length + i % p) (by omega) (by omega)
  have hm : (T.length - G.length + i % p - e) % p < p := Nat.mod_lt _ (by omega)
  refine ⟨_, (mem_lastN hS g1 gt).mpr ⟨e + (T.length - G.length + i % p - e) % p, by omega, by omega, fun z => hn0 (hr.2.mpr z), rfl⟩, ?_⟩
  rw [hr.1, least_at (by omega) (by omega), show T.length - G.length + i % p - (T.length - G.length) = i % p by omega, Nat.mod_mod,
    least_mul hS g1 gt hk hn0, ← h5.1, climbs_sv hi, climb_some hn]
theorem mem_nums {y : Int} : y ∈ nums T ↔ ∃ n, n < T.length ∧ tv T n = some y := by
  unfold nums
  rw [List.mem_filterMap]
  constructor
  · rintro ⟨o, ho, h⟩
    obtain ⟨n, hn, e1⟩ := List.getElem_of_mem ho
    refine ⟨n, hn, ?_⟩
    have : o = some y := h
    simp [tv, List.getD_eq_getElem?_getD, List.getElem?_eq_getElem hn, e1, this]
  · rintro ⟨n, hn, h⟩
    refine ⟨some y, ?_, rfl⟩
    have : T[n] = some y := by
      simpa [tv, List.getD_eq_getElem?_getD, List.getElem?_eq_getElem hn] using h
    rw [← this]
    exact List.getElem_mem hn
theorem nums_sub {y : Int} (h : y ∈ nums (T.take (e + p))) : y ∈ nums T := by
  obtain ⟨n, hn, h⟩ := mem_nums.mp h
  rw [List.length_take] at hn
  rw [tv_take (by omega)] at h
  exact mem_nums.mpr ⟨n, by omega, h⟩
theorem nums_le (hS : SetAt T G p e) (g1 : 1 ≤ G.length) (gt : G.length ≤ T.length) (neg : ∀ y ∈ lastN T G p e, y ≤ 0) {y : Int}
    (h : y ∈ nums T) : ∃ z ∈ nums (T.take (e + p)), y ≤ z := by
  obtain ⟨p1, p2, p3, p4, p5⟩ := hS.p1 g1 gt
  obtain ⟨n, hn, h⟩ := mem_nums.mp h
  induction n using Nat.strongRecOn generalizing y with
  | _ n ih =>
    rcases Nat.lt_or_ge n (e + p) with z | z
    · exact ⟨y, mem_nums.mpr ⟨n, by rw [p4]; exact z, by rw [tv_take z]; exact h⟩, Int.le_refl _⟩
    · have hs := step hS g1 gt (n := n - p) (by omega) (by omega)
      rw [show n - p + p = n by omega] at hs
      cases e1 : tv T (n - p) with
      | none =>
        rw [hs.1.mp e1] at h
        cases h
      | some i =>
        have h2 := hs.2 i y e1 h
        have hr := reduce hS g1 gt (n := n - p) (by omega) (by omega)
        have hm : (n - p - e) % p < p := Nat.mod_lt _ (by omega)
        have h3 := neg _ ((mem_lastN hS g1 gt).mpr ⟨e + (n - p - e) % p, by omega, by omega,
          fun z => (by rw [hr.2.mpr z] at e1; cases e1), rfl⟩)
        rw [hr.1] at h3
        obtain ⟨z, hz, hle⟩ := ih (n - p) (by omega) (mem_nums.mpr ⟨n - p, by omega, e1⟩) (by omega) e1
        exact ⟨z, hz, by omega⟩
/-- what the law compares: no end -/
theorem any_eq (hS : SetAt T G p e) (g1 : 1 ≤ G.length) (gt : G.length ≤ T.length) :
    ((lastN T G p e).any fun g => decide (0 < g)) = ((lastG T G).any fun g => decide (0 < g)) := by
  obtain ⟨p1, p2, p3, p4, p5⟩ := hS.p1 g1 gt
  have pz : (0 : Int) < (p : Int) := by omega
  have gz : (0 : Int) < (G.length : Int) := by omega
  rw [Bool.eq_iff_iff, List.any_eq_true, List.any_eq_true]
  constructor
  · rintro ⟨y, hy, h⟩
    obtain ⟨x, hx, hxy⟩ := last_a hS g1 gt hy
    refine ⟨x, hx, decide_eq_true ?_⟩
    have h := Int.mul_pos (of_decide_eq_true h) gz
    rw [← hxy] at h
    exact Int.pos_of_mul_pos_left h pz
  · rintro ⟨x, hx, h⟩
    obtain ⟨y, hy, hxy⟩ := last_b hS g1 gt hx
    refine ⟨y, hy, decide_eq_true ?_⟩
    have h := Int.mul_pos (of_decide_eq_true h) pz
    rw [hxy] at h
    exact Int.pos_of_mul_pos_left h gz
theorem nil_iff (hS : SetAt T G p e) (g1 : 1 ≤ G.length) (gt : G.length ≤ T.length) : lastN T G p e = [] ↔ lastG T G = [] := by
  rw [List.eq_nil_iff_forall_not_mem, List.eq_nil_iff_forall_not_mem]
  constructor
  · intro h x hx
    obtain ⟨y, hy, _⟩ := last_b hS g1 gt hx
    exact h y hy
  · intro h y hy
    obtain ⟨x, hx, _⟩ := last_a hS g1 gt hy
    exact h x hx
/-- the greatest ones -/
theorem best_eq (hS : SetAt T G p e) (g1 : 1 ≤ G.length) (gt : G.length ≤ T.length) {m best : Int} (hm : m ∈ lastN T G p e)
    (hml : ∀ y ∈ lastN T G p e, y ≤ m) (hb : best ∈ lastG T G) (hbl : ∀ y ∈ lastG T G, y ≤ best) :
    best * (p : Int) = m * (G.length : Int) := by
  obtain ⟨p1, p2, p3, p4, p5⟩ := hS.p1 g1 gt
  obtain ⟨x, hx, h1⟩ := last_a hS g1 gt hm
  obtain ⟨y, hy, h2⟩ := last_b hS g1 gt hb
  have h3 : x * (p : Int) ≤ best * (p : Int) := Int.mul_le_mul_of_nonneg_right (hbl x hx) (by omega)
  have h4 : y * (G.length : Int) ≤ m * (G.length : Int) := Int.mul_le_mul_of_nonneg_right (hml y hy) (by omega)
  omega
end
/-- least terms -/
theorem terms {m best : Int} {p c : Nat} (hp : 1 ≤ p) (h : best * (p : Int) = m * (c : Int)) :
    1 ≤ (p : Int).fdiv (gcdI m p) ∧ (p : Int).fdiv (gcdI m p) ≤ (p : Int) ∧ m.fdiv (gcdI m p) * (c : Int) = best * (p : Int).fdiv (gcdI m p) ∧
    ∀ q : Nat, 2 ≤ q → ¬ ((q : Int) ∣ m.fdiv (gcdI m p) ∧ (q : Int) ∣ (p : Int).fdiv (gcdI m p)) := by
  have d0 : 0 < Nat.gcd m.natAbs p := Nat.gcd_pos_of_pos_right _ (by omega)
  obtain ⟨p1, hp1⟩ := Nat.gcd_dvd_right m.natAbs p
  have hd1 : ((Nat.gcd m.natAbs p : Nat) : Int) ∣ m := Int.ofNat_dvd_left.mpr (Nat.gcd_dvd_left m.natAbs p)
  obtain ⟨m1, hm1⟩ := hd1
  have dz : gcdI m p ≠ 0 := by
    unfold gcdI
    omega
  have em : m.fdiv (gcdI m p) = m1 := by
    conv => lhs; arg 1; rw [hm1]
    show (gcdI m p * m1).fdiv (gcdI m p) = m1
    rw [Int.mul_comm, Int.mul_fdiv_cancel _ dz]
  have ep : (p : Int).fdiv (gcdI m p) = (p1 : Int) := by
    have : (p : Int) = (p1 : Int) * gcdI m p := by
      conv => lhs; rw [hp1]
      rw [Int.natCast_mul, Int.mul_comm]
      rfl
    rw [this, Int.mul_fdiv_cancel _ dz]
  have pz : 1 ≤ p1 := by
    rcases Nat.eq_zero_or_pos p1 with z | z
    · rw [z] at hp1
      omega
    · exact z
  rw [em, ep]
  refine ⟨by omega, ?_, ?_, ?_⟩
  · have : p1 ≤ Nat.gcd m.natAbs p * p1 := Nat.le_mul_of_pos_left _ d0
    omega
  · have h2 : gcdI m p * (m1 * (c : Int)) = gcdI m p * (best * (p1 : Int)) := by
      have a1 : gcdI m p * (m1 * (c : Int)) = m * (c : Int) := by
        rw [← Int.mul_assoc]
        show (((Nat.gcd m.natAbs p : Nat) : Int) * m1) * _ = _
        rw [← hm1]
      have a2 : gcdI m p * (best * (p1 : Int)) = best * (p : Int) := by
        rw [← Int.mul_assoc, Int.mul_comm (gcdI m p), Int.mul_assoc]
        congr 1
        show ((Nat.gcd m.natAbs p : Nat) : Int) * (p1 : Int) = _
        rw [← Int.natCast_mul, ← hp1]
      rw [a1, a2, h]
    exact Int.eq_of_mul_eq_mul_left dz h2
  · rintro q hq ⟨⟨u, hu⟩, ⟨v, hv⟩⟩
    have g : Nat.gcd m.natAbs p * q ∣ Nat.gcd m.natAbs p := by
      refine Nat.dvd_gcd ?_ ?_
      · rw [← Int.ofNat_dvd_left]
        refine ⟨u, ?_⟩
        rw [Int.natCast_mul, Int.mul_assoc, ← hu]
        exact hm1
      · have hv' : q ∣ p1 := Int.natCast_dvd_natCast.mp ⟨v, hv⟩
        obtain ⟨w, hw⟩ := hv'
        refine ⟨w, ?_⟩
        rw [Nat.mul_assoc, ← hw]
        exact hp1
    have := Nat.le_of_dvd d0 g
    have : Nat.gcd m.natAbs p * 2 ≤ Nat.gcd m.natAbs p * q := Nat.mul_le_mul_left _ hq
    omega
end KG
namespace KG
open PySem L2
theorem PenAt.upd {H : Hp} {p c D : Addr} {ns : List Int} {n : Nat} {o : HO} (h : PenAt H p c ns n) (h1 : D ≠ p) (h2 : D ≠ c) :
    PenAt (upd H D o) p c ns n := by
  obtain ⟨t, g, a, b, c1, d, e⟩ := h
  exact ⟨t, g, upd_oth h1.symm a, upd_oth h2.symm b, c1, d, e⟩
theorem PenAt.ne {H : Hp} {p c D : Addr} {ns : List Int} {n : Nat} (h : PenAt H p c ns n) (hD : H D = none) : D ≠ p ∧ D ≠ c := by
  obtain ⟨t, g, a, b, _⟩ := h
  refine ⟨fun z => ?_, fun z => ?_⟩
  · rw [z, a] at hD
    cases hD
  · rw [z, b] at hD
    cases hD
theorem But.trans {p : Addr} {H H1 H2 : Hp} (a : But p H H1) (b : But p H1 H2) : But p H H2 := fun x hx o h => b x hx o (a x hx o h)
theorem But.of {p : Addr} {H H1 : Hp} (a : Same H H1) : But p H H1 := fun x _ o h => a x o h
/-- a list that is being filled -/
theorem But.fill {p D : Addr} {H H2 : Hp} {o : HO} (hD : H D = none) (a : But p H H2) : But p H (upd H2 D o) := fun x hx u h => by
  refine upd_oth ?_ (a x hx u h)
  intro z
  rw [z, hD] at h
  cases h
section
variable {P : Program} {w : World} {K : PySem.W.Frag} {mg : Str → Option Value} {base : Heap}
/-- a pair of told ones and gains -/
def PairAt (H : Hp) (z a b : Addr) (T : List (Option Int)) (G : List Int) : Prop :=
  H z = some (.tup [.ref a, .ref b]) ∧ H a = some (.lst (T.map vO)) ∧ H b = some (.lst (G.map V.int))
/-- told ones that are written short -/
def Sm (T : List (Option Int)) : Prop := ∀ o ∈ T, ∀ v, o = some v → -9 ≤ v ∧ v ≤ 30
theorem Sm.nil : Sm [] := fun o h => absurd h List.not_mem_nil
theorem Sm.snoc {T : List (Option Int)} {o : Option Int} (h : Sm T) (k : ∀ v, o = some v → -9 ≤ v ∧ v ≤ 30) : Sm (T ++ [o]) := fun u hu => by
  rcases List.mem_append.mp hu with z | z
  · exact h u z
  · rw [List.mem_singleton] at z
    rw [z]
    exact k
def spLTold : Sp := fun vs H Q _ => ∃ (p c : Addr) (ns : List Int) (n : Nat), vs = [.ref p] ∧ PenAt H p c ns n ∧ ns.length ≤ 63 ∧ n + 40 < 1000000 ∧
  ∀ (z a b : Addr) (T : List (Option Int)) (G : List Int) (n' : Nat) (H' : Hp), PairAt H' z a b T G → Sm T → H a = none → H b = none → H z = none →
    1 ≤ G.length → G.length ≤ 6 → G.length ≤ T.length → T.length ≤ 9 → PenAt H' p c ns n' → n' ≤ n + 40 → But p H H' → Q (.ref z) H'
theorem But.free {p : Addr} {H H1 : Hp} {D : Addr} (a : But p H H1) (hD : H1 D = none) (hp : D ≠ p) : H D = none := by
  cases h : H D with
  | none => rfl
  | some o =>
    rw [a D hp o h] at hD
    cases hD
theorem kp_ltold (T : Txt K mg) : Kf P w K mg base 2 "_law_told" ["_law_pen_here"] spLTold := by
  refine T.d_ltold.okF sc_ltold (fun vs H Q E h => ?_) (fun f cdv A outer s H vs Q E hA hr h => ?_)
  · obtain ⟨p, c, ns, n, rfl, _⟩ := h
    rfl
  · obtain ⟨p, c, ns, n, rfl, hp, hlen, hn, k⟩ := h
    refine ⟨_, (pss_cons (ps_setLc (i := 1) (own := [("_law_turn", 3)]) (g := gName 3) (tt := tYes) rfl sc_ltold.nd rfl rfl (sw_true rfl rfl rfl (by decide +kernel)) (pi_range1 (by rfl) (T.nb _ (by decide)) (pa_cons (pe_op op_add (pe_int) (pe_kf (kp_draw T) hA hr (by rfl) (pa_cons (pv 0) (pa_cons (pe_int) pa_nil)))) pa_nil)) (blkOk_by (N := n_ltold) (sc := defScope s_ltold) (by decide +kernel)) (fun _ _ _ _ _ => pg_name (i := 3) sc_ltold.nd rfl (Or.inl rfl)) (fun _ _ _ _ _ => pts_nil) (fun _ _ _ _ _ => (pe_op op_sub (pe_kf (kp_draw T) hA hr (by rfl) (pa_cons (pv 0) (pa_cons (pe_int) pa_nil))) (pe_int))))
 (pss_cons (ps_set (i := 2) sc_ltold.nd rfl (Or.inl rfl) (pe_op op_add (pe_callB call_len (by rfl) (T.nb _ (by decide)) PySem.boot_len (pa_cons (pv 1) pa_nil)) (pe_kf (kp_draw T) hA hr (by rfl) (pa_cons (pv 0) (pa_cons (pe_int) pa_nil)))))
 (pss_one (ps_ret (pe_tup (pa_cons (pe_lc (own := [("_law_turn", 3)]) (g := gName 3) (tt := tYes) rfl sc_ltold.nd (pi_range1 (by rfl) (T.nb _ (by decide)) (pa_cons (pv 2) pa_nil)) (blkOk_by (N := n_ltold) (sc := defScope s_ltold) (by decide +kernel)) (fun _ _ _ _ _ => pg_name (i := 3) sc_ltold.nd rfl (Or.inl rfl)) (fun _ _ _ _ _ => pts_nil) (fun _ _ _ _ _ => (pe_ifExp (pt_cmpR op_eq (pe_kf (kp_draw T) hA hr (by rfl) (pa_cons (pv 0) (pa_cons (pe_int) pa_nil))) (pe_int) (nomark _)) (pe_non) (pe_op op_sub (pe_kf (kp_draw T) hA hr (by rfl) (pa_cons (pv 0) (pa_cons (pe_int) pa_nil))) (pe_int))))) (pa_cons (pv 1) pa_nil))))))), ?_⟩
    dsimp only [tSeq, tAsg, tNext, tRet, tCKw, tCons]
    refine ⟨_, rfl, p, c, 6, ns, n, rfl, hp, hlen, by decide, by decide, by omega, fun r1 H1 ra rb hp1 fr1 => ?_⟩
    refine ⟨_, _, rfl, rfl, _, rfl, by omega, by omega, fun D hD => ?_⟩
    obtain ⟨nDp, nDc⟩ := hp1.ne hD
    refine lc_range (fun i H2 => ∃ (gs : List Int) (n' : Nat), gs.length = i ∧ H2 D = some (.lst (gs.map V.int)) ∧ PenAt H2 p c ns n' ∧ n' ≤ n + 1 + i ∧ But p H1 H2)
      ⟨[], n + 1, rfl, upd_same, hp1.upd nDp nDc, by omega, But.of (Same.new hD)⟩ ?_ ?_
    · rintro i H2 hi ⟨gs, n', hl, hd, hp2, hn2, fr2⟩
      refine ⟨rfl, yes_run ?_⟩
      refine ⟨_, rfl, p, c, 8, ns, n', rfl, hp2, hlen, by decide, by decide, by omega, fun r H3 ra rb hp3 fr3 => ?_⟩
      refine ⟨_, _, rfl, rfl, _, fr3 D nDp _ hd, ?_, gs ++ [r - 3], n' + 1, by simp [hl], ?_, hp3.upd nDp nDc, by omega, KG.But.fill hD (KG.But.trans fr2 fr3)⟩
      · rw [List.length_map, hl]
        exact Nat.lt_of_lt_of_le hi (sz4 (by omega))
      · rw [upd_same, List.map_append]
        rfl
    · rintro H2 ⟨gs, n1, hl, hd, hp2, hn2, fr2⟩
      have frD : But p H H2 := KG.But.trans fr1 fr2
      have hH := KG.But.free fr1 hD nDp
      refine ⟨_, rfl, _, _, rfl, len_lst hd, _, rfl, p, c, 4, ns, n1, rfl, hp2, hlen, by decide, by decide, by omega, fun r2 H3 r2a r2b hp3 fr3 => ?_⟩
      rw [List.length_map, hl]
      refine ⟨_, _, rfl, rfl, ?_⟩
      have hd3 := fr3 D nDp _ hd
      have fr03 : But p H H3 := KG.But.trans frD fr3
      refine ⟨_, rfl, _, rfl, by omega, by omega, fun D2 hD2 => ?_⟩
      obtain ⟨mDp, mDc⟩ := hp3.ne hD2
      have hDD : D ≠ D2 := by
        intro z
        rw [z, hD2] at hd3
        cases hd3
      have hH2 := KG.But.free fr03 hD2 mDp
      refine lc_range (fun i H4 => ∃ (ts : List (Option Int)) (n' : Nat), ts.length = i ∧ Sm ts ∧ H4 D2 = some (.lst (ts.map vO)) ∧ PenAt H4 p c ns n' ∧ n' ≤ n1 + 1 + 2 * i ∧ But p H3 H4)
        ⟨[], n1 + 1, rfl, Sm.nil, upd_same, hp3.upd mDp mDc, by omega, But.of (Same.new hD2)⟩ ?_ ?_
      · rintro i H4 hi ⟨ts, n', hlt, hsm, hdt, hp4, hn4, fr4⟩
        refine ⟨rfl, yes_run ?_⟩
        refine ⟨_, rfl, p, c, 5, ns, n', rfl, hp4, hlen, by decide, by decide, by omega, fun r H5 ra rb hp5 fr5 => ⟨rfl, _, rfl, ?_⟩⟩
        have ll : (ts.map vO).length < sizeLine := by
          rw [List.length_map, hlt]
          exact Nat.lt_of_lt_of_le hi (sz4 (by omega))
        refine ite2 (fun c1 => ?_) (fun c1 => ?_)
        · refine ⟨_, fr5 D2 mDp _ hdt, ll, ts ++ [none], n' + 1, by simp [hlt], hsm.snoc (fun v y => by cases y), ?_, hp5.upd mDp mDc, by omega, KG.But.fill hD2 (KG.But.trans fr4 fr5)⟩
          rw [upd_same, List.map_append]
          rfl
        · refine ⟨_, rfl, p, c, 40, ns, n' + 1, rfl, hp5, hlen, by decide, by decide, by omega, fun r3 H6 r3a r3b hp6 fr6 => ?_⟩
          refine ⟨_, _, rfl, rfl, _, fr6 D2 mDp _ (fr5 D2 mDp _ hdt), ll, ts ++ [some (r3 - 9)], n' + 1 + 1, by simp [hlt], hsm.snoc (fun v y => by cases y; omega), ?_, hp6.upd mDp mDc, by omega,
            KG.But.fill hD2 (KG.But.trans (KG.But.trans fr4 fr5) fr6)⟩
          rw [upd_same, List.map_append]
          rfl
      · rintro H4 ⟨ts, n4, hlt, hsm, hdt, hp4, hn4, fr4⟩
        have hd4 := fr4 D nDp _ hd3
        refine ⟨_, rfl, (by show 2 ≤ sizeLine; decide), fun z hz => ?_⟩
        obtain ⟨nzp, nzc⟩ := hp4.ne hz
        have fr04 : But p H H4 := KG.But.trans fr03 fr4
        have nzD : z ≠ D := by
          intro y
          rw [y, hd4] at hz
          cases hz
        have nzD2 : z ≠ D2 := by
          intro y
          rw [y, hdt] at hz
          cases hz
        exact k z D2 D ts gs n4 _ ⟨upd_same, upd_oth nzD2.symm hdt, upd_oth nzD.symm hd4⟩ hsm hH2 hH (KG.But.free fr04 hz nzp)
          (by omega) (by omega) (by omega) (by omega) (hp4.upd nzp nzc) (by omega) (KG.But.trans fr04 (But.of (Same.new hz)))
def spLLast : Sp := fun vs H Q _ => ∃ (z a b : Addr) (T : List (Option Int)) (G : List Int), vs = [.ref z] ∧ PairAt H z a b T G ∧ 1 ≤ G.length ∧ G.length ≤ 60 ∧
  G.length ≤ T.length ∧ T.length ≤ 4000 ∧
  ∀ (q : Addr) (H' : Hp), H q = none → Same H H' → H' q = some (.lst ((lastG T G).map V.int)) → Q (.ref q) H'
def endAt (T : List (Option Int)) (G : List Int) (i : Nat) : Option Int :=
  match tv T (T.length - G.length + i) with
  | none => none
  | some _ => some ((T.length - G.length + i : Nat) : Int)
def endsL (T : List (Option Int)) (G : List Int) : List Int := (List.range G.length).filterMap (endAt T G)
theorem ends_last (T : List (Option Int)) (G : List Int) : (endsL T G).map (fun n => sv G (n.toNat % G.length)) = lastG T G := by
  unfold endsL lastG
  rw [List.map_filterMap]
  congr 1
  funext i
  unfold endAt lastAt
  cases tv T (T.length - G.length + i) with
  | none => rfl
  | some v => rfl
theorem ends_nn {T : List (Option Int)} {G : List Int} {n : Int} (h : n ∈ endsL T G) : 0 ≤ n := by
  obtain ⟨i, _, h⟩ := List.mem_filterMap.mp h
  unfold endAt at h
  cases e1 : tv T (T.length - G.length + i) with
  | none => rw [e1] at h; cases h
  | some v =>
    rw [e1] at h
    cases h
    omega
def lastV (G : List Int) : V → V
  | .int n => .int (sv G (n.toNat % G.length))
  | x => x
theorem kp_llasting (T : Txt K mg) : Kf P w K mg base 1 "_law_lasting" ["_law_pair"] spLLast := by
  refine T.d_llasting.okF sc_llasting (fun vs H Q E h => ?_) (fun f cdv A outer s H vs Q E hA hr h => ?_)
  · obtain ⟨z, a, b, t, g, rfl, _⟩ := h
    rfl
  · obtain ⟨z, a, b, t, g, rfl, ⟨hz, ha, hb⟩, g1, g2, gt, big, k⟩ := h
    refine ⟨_, (pss_cons (ps_asg (pv 0) (pg_tup rfl (pgs_cons (pg_name (i := 1) sc_llasting.nd rfl (Or.inr rfl)) (pgs_cons (pg_name (i := 2) sc_llasting.nd rfl (Or.inr rfl)) pgs_nil))))
 (pss_cons (ps_setLc (i := 3) (own := [("_law_n", 4)]) (g := gName 4) rfl sc_llasting.nd rfl rfl (sw_true rfl rfl rfl (by decide +kernel)) (pi_range2 (by rfl) (T.nb _ (by decide)) (pa_cons (pe_op op_sub (pe_callB call_len (by rfl) (T.nb _ (by decide)) PySem.boot_len (pa_cons (pv 1) pa_nil)) (pe_callB (call_len : CallR _ _ (rLen K)) (by rfl) (T.nb _ (by decide)) PySem.boot_len (pa_cons (pv 2) pa_nil))) (pa_cons (pe_callB call_len (by rfl) (T.nb _ (by decide)) PySem.boot_len (pa_cons (pv 1) pa_nil)) pa_nil))) (blkOk_by (N := n_llasting) (sc := defScope s_llasting) (by decide +kernel)) (fun _ _ _ _ _ => pg_name (i := 4) sc_llasting.nd rfl (Or.inl rfl)) (fun _ _ _ _ _ => (pts_one (pt_cmpR op_notN (pe_ix (ix_list : IxR _ (rIxL K)) (pv 1) (pv 4) (fun _ _ => rfl)) (pe_non) (nomark _)))) (fun _ _ _ _ _ => (pv 4)))
 (pss_one (ps_ret (pe_lc (own := [("_law_n", 4)]) (g := gName 4) (tt := tYes) rfl sc_llasting.nd (pi_list (pv 3)) (blkOk_by (N := n_llasting) (sc := defScope s_llasting) (by decide +kernel)) (fun _ _ _ _ _ => pg_name (i := 4) sc_llasting.nd rfl (Or.inl rfl)) (fun _ _ _ _ _ => pts_nil) (fun _ _ _ _ _ => (pe_ix (ix_list : IxR _ (rIxL K)) (pv 2) (pe_op op_modN (pe_callTy call_intI (by rfl) (T.nb _ (by decide)) (by decide +kernel) (pa_cons (pv 4) pa_nil)) (pe_callB (call_len : CallR _ _ (rLen K)) (by rfl) (T.nb _ (by decide)) PySem.boot_len (pa_cons (pv 2) pa_nil))) (fun _ _ => rfl)))))))), ?_⟩
    refine ⟨_, rfl, z, _, rfl, SqT.of hz, rfl, _, _, rfl, _, _, rfl, rfl, ?_⟩
    dsimp only [tSeq, tAsg, tNext, tRet, tCKw, tCons]
    refine ⟨_, rfl, _, _, rfl, len_lst ha, _, rfl, _, _, rfl, len_lst hb, _, _, rfl, rfl, _, rfl, _, _, rfl, len_lst ha, ?_⟩
    rw [List.length_map, List.length_map]
    have eb : ((t.length : Int) - (g.length : Int)) = ((t.length - g.length : Nat) : Int) := by omega
    generalize hb0 : t.length - g.length = b0 at eb
    refine ⟨_, _, rfl, by constructor <;> omega, fun D hD => ?_⟩
    rw [eb, show ((t.length : Int) - (b0 : Int)).toNat = g.length by omega]
    refine lc_rng (r := fun i _ => (endAt t g i).map V.int) (sz4 (by omega)) hD ?_ ?_
    · intro i H' hi hH Ky Kn hy hn
      refine ⟨rfl, _, rfl, _, rfl, ?_⟩
      refine ⟨_, _, _, _, rfl, rfl, SqL.of (hH _ _ ha), at_tv (k := b0 + i) (by omega) (by omega), ?_⟩
      refine ⟨rfl, _, rfl, ?_⟩
      cases e : tv t (b0 + i) with
      | none =>
        refine iteF (hn ?_)
        show (endAt t g i).map V.int = none
        unfold endAt
        rw [hb0, e]
        rfl
      | some x =>
        refine iteT ⟨_, rfl, hy _ ?_⟩
        show (endAt t g i).map V.int = _
        unfold endAt
        rw [hb0, e]
        rfl
    · rw [fm_filt]
      have s1 : Same H (upd H D (.lst (((List.range g.length).filterMap (endAt t g)).map V.int))) := Same.new hD
      refine tlc_list (r := fun _ x => some (lastV g x)) (xs := (endsL t g).map V.int) (SqL.of upd_same) ?_ (fun R h => ⟨_, rfl, h⟩) ?_ ?_
      · rw [List.length_map]
        exact Nat.le_trans (List.length_filterMap_le _ _) (by rw [List.length_range]; exact sz4 (by omega))
      · intro i x H' hx s2 Ky Kn hy _
        obtain ⟨n, hn, rfl⟩ := int_at hx
        have nn : 0 ≤ n := ends_nn (List.mem_of_getElem? hn)
        have hb' := s2 _ _ (s1 _ _ hb)
        refine ⟨rfl, yes_run ?_⟩
        refine ⟨_, rfl, _, rfl, n, rfl, _, rfl, _, _, rfl, len_lst hb', _, _, rfl, rfl, ?_, ?_⟩
        · rw [List.length_map]
          omega
        · rw [List.length_map]
          have em : n.fmod (g.length : Int) = ((n.toNat % g.length : Nat) : Int) := by
            rw [Int.fmod_eq_emod_of_nonneg _ (by omega), Int.natCast_emod, Int.toNat_of_nonneg nn]
          refine ⟨_, _, _, _, rfl, rfl, SqL.of hb', at_sv em (Nat.mod_lt _ (by omega)), hy _ rfl⟩
      · intro D2 hD2
        rw [fm_map (lastV g) _ (fun _ _ => rfl), List.map_map]
        refine k D2 _ (s1.free hD2) (s1.trans (Same.new hD2)) ?_
        rw [upd_same, ← ends_last, List.map_map]
        rfl
end
end KG
namespace KG
open PySem L2
def Due (T : List (Option Int)) (G : List Int) (v : V) : Prop :=
  (((lastG T G).any fun g => decide (0 < g)) = true ∧ v = .non) ∨
  (((lastG T G).any fun g => decide (0 < g)) = false ∧ nums T = [] ∧ v = .non) ∨
  (((lastG T G).any fun g => decide (0 < g)) = false ∧ ∃ m ∈ nums T, (∀ y ∈ nums T, y ≤ m) ∧ v = .int m)
theorem great_due {T : List (Option Int)} {G : List Int} {p e : Nat} {v : V} {R : V → Prop} (hS : SetAt T G p e) (g1 : 1 ≤ G.length) (gt : G.length ≤ T.length) (h : Due T G v) (k : R v) :
    (((lastN T G p e).any fun g => decide (0 < g)) = true → R .non) ∧
    (((lastN T G p e).any fun g => decide (0 < g)) = false → (nums (T.take (e + p)) = [] → R .non) ∧
      ∀ m ∈ nums (T.take (e + p)), (∀ y ∈ nums (T.take (e + p)), y ≤ m) → R (.int m)) := by
  rw [any_eq hS g1 gt]
  have neg (z : ((lastG T G).any fun g => decide (0 < g)) = false) : ∀ y ∈ lastN T G p e, y ≤ 0 := by
    intro y hy
    rw [← any_eq hS g1 gt, List.any_eq_false] at z
    have := z y hy
    have : ¬ 0 < y := fun q => this (decide_eq_true q)
    omega
  rcases h with ⟨h, rfl⟩ | ⟨h, hn, rfl⟩ | ⟨h, m, hm, hl, rfl⟩
  · exact ⟨fun _ => k, fun z => absurd (h.symm.trans z) (by decide)⟩
  · refine ⟨fun z => absurd (h.symm.trans z) (by decide), fun _ => ⟨fun _ => k, fun m hm _ => ?_⟩⟩
    have := nums_sub hm
    rw [hn] at this
    cases this
  · refine ⟨fun z => absurd (h.symm.trans z) (by decide), fun _ => ⟨fun z => ?_, fun m' hm' hl' => ?_⟩⟩
    · obtain ⟨y, hy, _⟩ := nums_le hS g1 gt (neg h) hm
      rw [z] at hy
      cases hy
    · obtain ⟨y, hy, hle⟩ := nums_le hS g1 gt (neg h) hm
      have h1 := hl' y hy
      have h2 := hl m' (nums_sub hm')
      have : m' = m := by omega
      rw [this]
      exact k
section
variable {P : Program} {w : World} {K : PySem.W.Frag} {mg : Str → Option Value} {base : Heap}
def spRight : Sp := fun vs H Q _ => ∃ (z a b : Addr) (T : List (Option Int)) (G : List Int), vs = [.ref z] ∧ PairAt H z a b T G ∧ Sm T ∧
  1 ≤ G.length ∧ G.length ≤ 60 ∧ G.length ≤ T.length ∧ T.length ≤ 4000 ∧ ∀ (H' : Hp), Same H H' → Q (.bl true) H'
theorem great_sp {C : Addr} {x : Addr} {T : List (Option Int)} {G : List Int} {p e : Nat} {H : Hp} {Q : VK} {v : V} {E : XK} (hG : GrowAt C H x T G p e)
    (g1 : 1 ≤ G.length) (g2 : G.length ≤ 60) (gt : G.length ≤ T.length) (big : T.length ≤ 4000) (h : Due T G v) (k : ∀ H', Same H H' → Q v H') :
    spGreatest C [.ref x] H Q E := by
  have hS : SetAt T G p e := by
    obtain ⟨_, _, _, hS, _⟩ := hG
    exact hS
  exact ⟨x, T, G, p, e, rfl, hG, g1, g2, gt, big, fun H' s => great_due (R := fun u => Q u H') hS g1 gt h (k H' s)⟩
def dOf : V → PyData
  | .int m => .int m
  | _ => .none
theorem short_all : ∀ (k : Fin 40) (b : Bool), (PyData.list [.bool b, .int ((k.val : Int) - 9)]).showable = true ∧
    (PyData.list [.bool b, .int ((k.val : Int) - 9)]).depth ≤ 60 ∧ (PyData.list [.bool b, .int ((k.val : Int) - 9)]).shown.length ≤ 1000 := by
  decide +kernel
theorem short_non : ∀ (b : Bool), (PyData.list [.bool b, .none]).showable = true ∧
    (PyData.list [.bool b, .none]).depth ≤ 60 ∧ (PyData.list [.bool b, .none]).shown.length ≤ 1000 := by
  decide +kernel
theorem due_short {T : List (Option Int)} {G : List Int} {v : V} (h : Due T G v) (hs : Sm T) : (∀ H, Dq K H v (dOf v)) ∧ ∀ b : Bool,
    (PyData.list [.bool b, dOf v]).showable = true ∧ (PyData.list [.bool b, dOf v]).depth ≤ 60 ∧ (PyData.list [.bool b, dOf v]).shown.length ≤ sizeLine := by
  have sz {n : Nat} (h : n ≤ 1000) : n ≤ sizeLine := Nat.le_trans h (by decide)
  rcases h with ⟨_, rfl⟩ | ⟨_, _, rfl⟩ | ⟨_, m, hm, _, rfl⟩
  · exact ⟨fun _ => .non, fun b => ⟨(short_non b).1, (short_non b).2.1, sz (short_non b).2.2⟩⟩
  · exact ⟨fun _ => .non, fun b => ⟨(short_non b).1, (short_non b).2.1, sz (short_non b).2.2⟩⟩
  · refine ⟨fun _ => .int m, fun b => ?_⟩
    obtain ⟨n, hn, e1⟩ := mem_nums.mp hm
    have hmem : some m ∈ T := by
      have : T[n] = some m := by
        simpa [tv, List.getD_eq_getElem?_getD, List.getElem?_eq_getElem hn] using e1
      rw [← this]
      exact List.getElem_mem hn
    obtain ⟨h1, h2⟩ := hs _ hmem m rfl
    have e2 : m = (((m + 9).toNat : Nat) : Int) - 9 := by omega
    have := short_all ⟨(m + 9).toNat, by omega⟩ b
    dsimp only at this
    rw [← e2] at this
    exact ⟨this.1, this.2.1, sz this.2.2⟩
def posO : V → Option V
  | .int n => if 0 < n then some (.int n) else none
  | _ => none
theorem fm_pos : ∀ (l : List Int) (k : Nat), fm (fun _ x => posO x) k (l.map V.int) = (l.filter fun n => decide (0 < n)).map V.int
  | [], _ => rfl
  | n :: l, k => by
    rw [List.map_cons]
    unfold fm
    rw [fm_pos l (k + 1)]
    by_cases h : 0 < n
    · simp [posO, h]
    · simp [posO, h]
def numO : V → Option V
  | .int n => some (.int n)
  | _ => none
theorem fm_num : ∀ (ts : List (Option Int)) (k : Nat), fm (fun _ x => numO x) k (ts.map vO) = (nums ts).map V.int
  | [], _ => rfl
  | o :: ts, k => by
    rw [List.map_cons]
    unfold fm
    rw [fm_num ts (k + 1)]
    cases o <;> simp [nums, vO, numO]
theorem filter_any (l : List Int) : (!((l.filter fun n => decide (0 < n)).map PyData.int).isEmpty) = l.any fun n => decide (0 < n) := by
  induction l with
  | nil => rfl
  | cons n l ih =>
    by_cases h : 0 < n
    · simp [h]
    · simp only [List.filter_cons, h, decide_false, List.any_cons, Bool.false_or]
      exact ih
theorem due_run {T : List (Option Int)} {G : List Int} {v0 v1 v2 v3 : Option V} {H : Hp} {D : Addr} {Q : VK}
    (hD : H D = some (.lst ((nums T).map V.int))) (big : T.length ≤ 4000)
    (k : ∀ v H', Same H H' → Due T G v → Q v H') :
    tIf (tOr (tB (tVar 4)) (tTest (tOp (rEqD K) (tVar 5) (tLst tNil)))) (tC .non)
      (tCB (rMax K) (tCons (tLc (iList K (tVar 5)) (gName 10) tYes (tCB (fun xs H Q => ∃ i, xs = [V.int i] ∧ Q (V.int i) H) (tCons (tVar 10) tNil)) [10]) tNil))
      [v0, v1, v2, v3, some (.bl ((lastG T G).any fun g => decide (0 < g))), some (.ref D), none, none, none, none, none, none] H Q := by
  have nl : (nums T).length ≤ T.length := List.length_filterMap_le _ _
  refine ⟨_, rfl, _, rfl, ?_⟩
  refine ite2 (fun c => k .non H (fun _ _ h => h) (.inl ⟨c, rfl⟩)) (fun c => ?_)
  have c' := Bool.eq_false_iff.mpr c
  refine ⟨_, rfl, (by show 0 ≤ sizeLine; decide), fun l hl => ?_⟩
  have s1 : Same H (upd H l (.lst [])) := Same.new hl
  refine ⟨_, _, .lst (SqL.of (s1 _ _ hD)) (dp_ints _), .lst (SqL.of upd_same) .nil, shaped_ints _, rfl, _, rfl, ?_⟩
  rw [eqv_nil]
  refine ite2 (fun e => ?_) (fun e => ?_)
  · refine k .non _ s1 (.inr (.inl ⟨c', ?_, rfl⟩))
    simpa using e
  · dsimp only [tCB, tCons]
    refine tlc_list (r := fun _ x => some x) (xs := (nums T).map V.int) (SqL.of (s1 _ _ hD)) (by rw [List.length_map]; exact sz4 (by omega)) (fun R h => ⟨_, rfl, h⟩) ?_ ?_
    · intro i x H' hx _ Ky Kn hy _
      obtain ⟨n, _, rfl⟩ := int_at hx
      refine ⟨rfl, yes_run ?_⟩
      exact ⟨_, rfl, n, rfl, hy _ rfl⟩
    · intro D2 hD2
      have ef : fm (fun _ x => some x) 0 ((nums T).map V.int) = (nums T).map V.int := (fm_map (fun x => x) _ (fun _ _ => rfl) _ _).trans (List.map_id' _)
      rw [ef]
      refine ⟨D2, nums T, rfl, SqL.of upd_same, ?_, fun m hm hle => k _ _ (s1.trans (Same.new hD2)) (.inr (.inr ⟨c', m, hm, hle, rfl⟩))⟩
      cases hn : nums T with
      | nil =>
        rw [hn] at e
        simp at e
      | cons a l => simp
theorem kp_lright (TG : TxG K mg) : Kp P w K mg base 6 "_law_right" ["_law_pair"] spRight := by
  have T := TG.T
  refine T.d_lright.ok sc_lright (fun vs H Q E h => ?_) (fun f cdv A outer s H vs Q E hA hr h => ?_)
  · obtain ⟨z, a, b, t, g, rfl, _⟩ := h
    rfl
  · obtain ⟨z, a, b, t, g, rfl, ⟨hz, ha, hb⟩, hsm, g1, g2, gt, big, k⟩ := h
    refine ⟨_, (pss_cons (ps_par3 (i := 1) (j := 2) (l := 3) (by rfl) sc_lright.nd rfl rfl rfl (by decide) (by decide) (by decide) rfl rfl rfl (pa_cons (pe_kmk (kp_init TG) hr (by rfl) TG.mgC (pa_cons (pe_ix (ix_tup : IxR _ (rIxT K)) (pv 0) (pe_int) (fun _ _ => rfl)) (pa_cons (pe_ix (ix_tup : IxR _ (rIxT K)) (pv 0) (pe_int) (fun _ _ => rfl)) pa_nil))) (pa_cons (pe_kf (kp_llasting T) hA hr (by rfl) (pa_cons (pv 0) pa_nil)) (pa_cons (pe_callB call_len (by rfl) (T.nb _ (by decide)) PySem.boot_len (pa_cons (pe_ix (ix_tup : IxR _ (rIxT K)) (pv 0) (pe_int) (fun _ _ => rfl)) pa_nil)) pa_nil))) (by rfl))
 (pss_cons (ps_set (i := 4) sc_lright.nd rfl (Or.inl rfl) (pe_cmpR (op_neD hr.units) (pe_lc (own := [("_law_gain", 9)]) (g := gName 9) rfl sc_lright.nd (pi_list (pv 2)) (blkOk_by (N := n_lright) (sc := defScope s_lright) (by decide +kernel)) (fun _ _ _ _ _ => pg_name (i := 9) sc_lright.nd rfl (Or.inl rfl)) (fun _ _ _ _ _ => (pts_one (pt_cmpR op_gt (pv 9) (pe_int) (nomark _)))) (fun _ _ _ _ _ => (pv 9))) (pe_lst pa_nil) (nomark _)))
 (pss_cons (ps_setLc (i := 5) (own := [("_law_value", 10)]) (g := gName 10) rfl sc_lright.nd rfl rfl (sw_true rfl rfl rfl (by decide +kernel)) (pi_list (pe_ix (ix_tup : IxR _ (rIxT K)) (pv 0) (pe_int) (fun _ _ => rfl))) (blkOk_by (N := n_lright) (sc := defScope s_lright) (by decide +kernel)) (fun _ _ _ _ _ => pg_name (i := 10) sc_lright.nd rfl (Or.inl rfl)) (fun _ _ _ _ _ => (pts_one (pt_cmpR op_notN (pv 10) (pe_non) (nomark _)))) (fun _ _ _ _ _ => (pv 10)))
 (pss_cons (ps_set (i := 6) sc_lright.nd rfl (Or.inl rfl) (pe_ifExp (PW.pt (pw_or (pt_val (pv 4)) (pw_or1 (pt_cmpR (op_eqD hr.units) (pv 5) (pe_lst pa_nil) (nomark _))))) (pe_non) (pe_callB (cr_max rfl) (by rfl) (T.nb _ (by decide)) (by decide +kernel) (pa_cons (pe_lc (own := [("_law_value", 10)]) (g := gName 10) (tt := tYes) rfl sc_lright.nd (pi_list (pv 5)) (blkOk_by (N := n_lright) (sc := defScope s_lright) (by decide +kernel)) (fun _ _ _ _ _ => pg_name (i := 10) sc_lright.nd rfl (Or.inl rfl)) (fun _ _ _ _ _ => pts_nil) (fun _ _ _ _ _ => (pe_callTy call_intI (by rfl) (T.nb _ (by decide)) (by decide +kernel) (pa_cons (pv 10) pa_nil)))) pa_nil))))
 (pss_cons (ps_if (pt_cmpR op_ne (pe_callB (call_repq hA hr.units) (by rfl) (T.nb _ (by decide)) (by decide +kernel) (pa_cons (pe_lst (pa_cons (pe_kpr (kp_endless TG) TG.cls hr (pv 1)) (pa_cons (pe_kpr (kp_greatest TG) TG.cls hr (pv 1)) pa_nil))) pa_nil)) (pe_callB (call_repq hA hr.units) (by rfl) (T.nb _ (by decide)) (by decide +kernel) (pa_cons (pe_lst (pa_cons (pv 4) (pa_cons (pv 6) pa_nil))) pa_nil)) (nomark _))
 (pss_one (ps_ret (pe_bl))) pss_nil)
 (pss_cons (ps_if (pt_cmpR (op_eqD hr.units) (pv 2) (pe_lst pa_nil) (nomark _))
 (pss_one (ps_ret (pe_cmpR op_isN (pe_kpr (kp_slope TG) TG.cls hr (pv 1)) (pe_non) (nomark _)))) pss_nil)
 (pss_cons (ps_asg (pe_tup (pa_cons (pe_callB (cr_max rfl) (by rfl) (T.nb _ (by decide)) (by decide +kernel) (pa_cons (pe_lc (own := [("_law_gain", 9)]) (g := gName 9) (tt := tYes) rfl sc_lright.nd (pi_list (pv 2)) (blkOk_by (N := n_lright) (sc := defScope s_lright) (by decide +kernel)) (fun _ _ _ _ _ => pg_name (i := 9) sc_lright.nd rfl (Or.inl rfl)) (fun _ _ _ _ _ => pts_nil) (fun _ _ _ _ _ => (pe_callTy call_intI (by rfl) (T.nb _ (by decide)) (by decide +kernel) (pa_cons (pv 9) pa_nil)))) pa_nil)) (pa_cons (pe_kpr (kp_slope TG) TG.cls hr (pv 1)) pa_nil))) (pg_tup rfl (pgs_cons (pg_name (i := 7) sc_lright.nd rfl (Or.inl rfl)) (pgs_cons (pg_name (i := 8) sc_lright.nd rfl (Or.inr rfl)) pgs_nil))))
 (pss_cons (ps_if (PW.pt (pw_or (pt_not (pt_val (pe_callB call_isi (by rfl) (T.nb _ (by decide)) (by decide +kernel) (pa_cons (pv 8) (pa_cons (pe_bltn (v := .ty "tuple") (by rfl) (T.nb _ (by decide)) (by decide +kernel) rfl) pa_nil))))) (pw_or (pt_cmpR op_ne (pe_callB call_len (by rfl) (T.nb _ (by decide)) PySem.boot_len (pa_cons (pv 8) pa_nil)) (pe_int) (nomark _)) (pw_or (pt_cmpR op_lt (pe_ix (ix_tup : IxR _ (rIxT K)) (pv 8) (pe_int) (fun _ _ => rfl)) (pe_int) (nomark _)) (pw_or1 (pt_cmpR op_ne (pe_op op_mul (pe_ix (ix_tup : IxR _ (rIxT K)) (pv 8) (pe_int) (fun _ _ => rfl)) (pv 3)) (pe_op op_mul (pv 7) (pe_ix (ix_tup : IxR _ (rIxT K)) (pv 8) (pe_int) (fun _ _ => rfl))) (nomark _)))))))
 (pss_one (ps_ret (pe_bl))) pss_nil)
 (pss_one (ps_ret (pe_cmpR (op_eqD hr.units) (pe_lc (own := [("_law_part", 11)]) (g := gName 11) rfl sc_lright.nd (pi_range2 (by rfl) (T.nb _ (by decide)) (pa_cons (pe_int) (pa_cons (pe_op op_add (pe_ix (ix_tup : IxR _ (rIxT K)) (pv 8) (pe_int) (fun _ _ => rfl)) (pe_int)) pa_nil))) (blkOk_by (N := n_lright) (sc := defScope s_lright) (by decide +kernel)) (fun _ _ _ _ _ => pg_name (i := 11) sc_lright.nd rfl (Or.inl rfl)) (fun _ _ _ _ _ => (pts_one (PW.pt (pw_and (pt_cmpR op_eq (pe_op op_modN (pe_callTy call_intI (by rfl) (T.nb _ (by decide)) (by decide +kernel) (pa_cons (pe_ix (ix_tup : IxR _ (rIxT K)) (pv 8) (pe_int) (fun _ _ => rfl)) pa_nil)) (pv 11)) (pe_int) (nomark _)) (pw_and1 (pt_cmpR op_eq (pe_op op_modN (pe_callTy call_intI (by rfl) (T.nb _ (by decide)) (by decide +kernel) (pa_cons (pe_ix (ix_tup : IxR _ (rIxT K)) (pv 8) (pe_int) (fun _ _ => rfl)) pa_nil)) (pv 11)) (pe_int) (nomark _))))))) (fun _ _ _ _ _ => (pv 11))) (pe_lst pa_nil) (nomark _)))))))))))), ?_⟩
    dsimp only [tSeq, tAsg, tNext, tRet, tCKw, tCons]
    refine ⟨_, rfl, z, _, 0, _, rfl, rfl, SqT.of hz, rfl, _, rfl, z, _, 1, _, rfl, rfl, SqT.of hz, rfl, fun x dx hx hdx ne => ?_⟩
    have pa (y : Addr) (o : HO) (h : H y = some o) : upd (upd H dx (.own x)) x (.ins (gC mg) dx []) y = some o :=
      upd_new (by rw [upd_oth' ne.symm]; exact hx) (upd_new hdx h)
    refine ⟨x, dx, a, b, t, g, rfl, upd_same, SqL.of (pa _ _ ha), .inl (SqL.of (pa _ _ hb)), g1, g2, gt, big, fun p e H1 hb1 hg => ⟨rfl, ?_⟩⟩
    have s1 : Same H H1 := (made_same (fun _ _ h => h) hx hdx hb1).2
    refine ⟨_, rfl, z, a, b, t, g, rfl, ⟨s1 _ _ hz, s1 _ _ ha, s1 _ _ hb⟩, g1, g2, gt, big, fun q H2 hq s2 hq2 => ?_⟩
    have s12 := s1.trans s2
    have hg2 := hg.same s2
    refine ⟨_, rfl, z, _, 1, _, rfl, rfl, SqT.of (s12 _ _ hz), rfl, _, _, rfl, len_lst (s12 _ _ hb), _, _, _, rfl, ?_⟩
    have lg : (lastG t g).length ≤ 60 := Nat.le_trans (lastG_len _ _) g2
    -- whether there is no end
    dsimp only [tSeq, tAsg, tOp]
    refine tlc_list (r := fun _ x => posO x) (xs := (lastG t g).map V.int) (SqL.of hq2) (by rw [List.length_map]; exact sz4 (by omega)) (fun R h => ⟨_, rfl, h⟩) ?_ ?_
    · intro i y H' hy _ Ky Kn hy1 hn
      obtain ⟨n, _, rfl⟩ := int_at hy
      refine ⟨rfl, _, rfl, _, _, rfl, rfl, _, rfl, ?_⟩
      refine ite2 (fun c => ⟨_, rfl, hy1 _ ?_⟩) (fun c => hn ?_)
      · have : 0 < n := of_decide_eq_true c
        simp [posO, this]
      · have : ¬ 0 < n := fun y => c (decide_eq_true y)
        simp [posO, this]
    intro D1 hD1
    rw [fm_pos]
    have s3 : Same H2 (upd H2 D1 (.lst (((lastG t g).filter fun n => decide (0 < n)).map V.int))) := Same.new hD1
    refine ⟨(by show 0 ≤ sizeLine; decide), fun l1 hl1 => ?_⟩
    refine ⟨_, _, .lst (SqL.of (upd_new hl1 upd_same)) (dp_ints _), .lst (SqL.of upd_same) .nil, shaped_ints _, rfl, ?_⟩
    rw [eqv_nil, filter_any]
    have s4 : Same H2 (upd (upd H2 D1 (.lst (((lastG t g).filter fun n => decide (0 < n)).map V.int))) l1 (.lst [])) := s3.trans (Same.new hl1)
    generalize upd (upd H2 D1 (.lst (((lastG t g).filter fun n => decide (0 < n)).map V.int))) l1 (.lst []) = H4 at s4 ⊢
    have s14 := s12.trans s4
    -- the numbers
    dsimp only [gName, tSeq, tAsg]
    refine tlc_list (r := fun _ x => numO x) (xs := t.map vO) (SqL.of (s14 _ _ ha)) (by rw [List.length_map]; exact sz4 big)
      (fun R h => ⟨_, rfl, z, _, 0, _, rfl, rfl, SqT.of (s14 _ _ hz), rfl, h⟩) ?_ ?_
    · intro i x H' hx _ Ky Kn hy hn
      obtain ⟨o, _, rfl⟩ := opt_at hx
      cases o with
      | none => exact ⟨rfl, _, rfl, rfl, _, rfl, iteF (hn rfl)⟩
      | some n => exact ⟨rfl, _, rfl, rfl, _, rfl, iteT ⟨_, rfl, hy _ rfl⟩⟩
    intro D2 hD2
    rw [fm_num]
    have s5 : Same H4 (upd H4 D2 (.lst ((nums t).map V.int))) := Same.new hD2
    have hN : upd H4 D2 (.lst ((nums t).map V.int)) D2 = some (.lst ((nums t).map V.int)) := upd_same
    generalize upd H4 D2 (.lst ((nums t).map V.int)) = H5 at s5 hN ⊢
    have s15 := s14.trans s5
    have s25 := s4.trans s5
    refine due_run (T := t) (G := g) (D := D2) hN big fun v H6 s6 hdue => ?_
    have s16 := s15.trans s6
    have s26 := s25.trans s6
    have hg6 := hg2.same s26
    obtain ⟨dq, dsh⟩ := due_short hdue hsm
    have hx6 : ∃ dx fs, H6 x = some (.ins (gC mg) dx fs) := by
      obtain ⟨dx, _, _, _, h, _⟩ := hg6
      exact ⟨_, _, h⟩
    obtain ⟨dx6, fs6, hx6⟩ := hx6
    refine ⟨_, rfl, x, dx6, fs6, rfl, hx6, x, t, g, p, e, rfl, hg6, g1, g2, gt, big, fun H7 s7 => ?_⟩
    refine ⟨_, rfl, x, dx6, fs6, rfl, s7 _ _ hx6, great_sp (hg6.same s7) g1 g2 gt big hdue fun H8 s8 => ?_⟩
    refine ⟨(by show 2 ≤ sizeLine; decide), fun l3 hl3 => ?_⟩
    refine ⟨l3, .list [.bool ((lastN t g p e).any fun g => decide (0 < g)), dOf v], rfl, .lst (SqL.of upd_same) (.cons (.bl _) (.cons (dq _) .nil)), (dsh _).1, (dsh _).2.1, (dsh _).2.2, ?_⟩
    refine ⟨_, rfl, _, rfl, (by show 2 ≤ sizeLine; decide), fun l4 hl4 => ?_⟩
    refine ⟨l4, .list [.bool ((lastG t g).any fun g => decide (0 < g)), dOf v], rfl, .lst (SqL.of upd_same) (.cons (.bl _) (.cons (dq _) .nil)), (dsh _).1, (dsh _).2.1, (dsh _).2.2, ?_⟩
    have hS : SetAt t g p e := by
      obtain ⟨_, _, _, hS, _⟩ := hg6
      exact hS
    rw [any_eq hS g1 gt] at hl4 ⊢
    have s78 : Same H6 H8 := s7.trans s8
    have s9 : Same H6 (upd (upd H8 l3 (.lst [.bl ((lastG t g).any fun g => decide (0 < g)), v])) l4 (.lst [.bl ((lastG t g).any fun g => decide (0 < g)), v])) :=
      s78.trans ((Same.new hl3).trans (Same.new hl4))
    generalize upd (upd H8 l3 (.lst [.bl ((lastG t g).any fun g => decide (0 < g)), v])) l4 (.lst [.bl ((lastG t g).any fun g => decide (0 < g)), v]) = H9 at s9 ⊢
    refine ⟨rfl, _, rfl, ite2 (fun c => absurd c (by simp)) (fun _ => ?_)⟩
    have s19 := s16.trans s9
    have s29 := s26.trans s9
    have hg9 := hg6.same s9
    have hq9 := s29 _ _ hq2
    refine ⟨_, rfl, (by show 0 ≤ sizeLine; decide), fun l5 hl5 => ?_⟩
    have s10 : Same H9 (upd H9 l5 (.lst [])) := Same.new hl5
    refine ⟨_, _, .lst (SqL.of (s10 _ _ hq9)) (dp_ints _), .lst (SqL.of upd_same) .nil, shaped_ints _, rfl, _, rfl, ?_⟩
    rw [eqv_nil]
    have hgA := hg9.same s10
    have hqA := s10 _ _ hq9
    have s1A := s19.trans s10
    generalize upd H9 l5 (.lst []) = HA at s10 hgA hqA s1A ⊢
    have hxA : ∃ dx fs, HA x = some (.ins (gC mg) dx fs) := by
      obtain ⟨dx, _, _, _, h, _⟩ := hgA
      exact ⟨_, _, h⟩
    obtain ⟨dxA, fsA, hxA⟩ := hxA
    refine ite2 (fun c => ?_) (fun c => ?_)
    · have hn : lastG t g = [] := by simpa using c
      have hn2 := (nil_iff hS g1 gt).mpr hn
      refine ⟨_, rfl, x, dxA, fsA, rfl, hxA, x, t, g, p, e, rfl, hgA, g1, g2, gt, big, fun _ H' s' => ⟨rfl, k H' (s1A.trans s')⟩, fun m hm => ?_⟩
      rw [hn2] at hm
      cases hm
    · have hne : lastG t g ≠ [] := fun y => c (by rw [y]; rfl)
      have hne2 : lastN t g p e ≠ [] := fun y => hne ((nil_iff hS g1 gt).mp y)
      dsimp only [tNext, tSeq, tAsg, tTup, tCons, tCB]
      refine tlc_list (r := fun _ x => some x) (xs := (lastG t g).map V.int) (SqL.of hqA) (by rw [List.length_map]; exact sz4 (by omega)) (fun R h => ⟨_, rfl, h⟩) ?_ ?_
      · intro i x H' hx _ Ky Kn hy _
        obtain ⟨n, _, rfl⟩ := int_at hx
        refine ⟨rfl, yes_run ?_⟩
        exact ⟨_, rfl, n, rfl, hy _ rfl⟩
      intro D3 hD3
      have ef : fm (fun _ x => some x) 0 ((lastG t g).map V.int) = (lastG t g).map V.int := (fm_map (fun x => x) _ (fun _ _ => rfl) _ _).trans (List.map_id' _)
      rw [ef]
      have sB : Same HA (upd HA D3 (.lst ((lastG t g).map V.int))) := Same.new hD3
      refine ⟨D3, lastG t g, rfl, SqL.of upd_same, List.length_pos_iff.mpr hne, fun best hbest hbl => ?_⟩
      refine ⟨_, rfl, x, dxA, fsA, rfl, sB _ _ hxA, x, t, g, p, e, rfl, hgA.same sB, g1, g2, gt, big, fun y => absurd y hne2, fun m hm hml q2 HC hq2n sC hq2t => ?_⟩
      refine ⟨(by show 2 ≤ sizeLine; decide), fun z2 hz2 => ?_⟩
      have ht := terms (m := m) (best := best) (p := p) (c := g.length) (hS.p1 g1 gt).1 (best_eq hS g1 gt hm hml hbest hbl)
      obtain ⟨ht1, ht0, ht2, ht3⟩ := ht
      have hpp := (hS.p1 g1 gt).2.1
      generalize m.fdiv (gcdI m p) = m1 at hq2t ht2 ht3
      generalize (p : Int).fdiv (gcdI m p) = p1 at hq2t ht1 ht0 ht2 ht3
      refine ⟨z2, _, rfl, SqT.of upd_same, rfl, _, _, rfl, _, _, rfl, rfl, ?_⟩
      have hqD : upd HC z2 (.tup [.int best, .ref q2]) q2 = some (.tup [.int m1, .int p1]) := upd_new hz2 hq2t
      have sD : Same HA (upd HC z2 (.tup [.int best, .ref q2])) := (sB.trans sC).trans (Same.new hz2)
      generalize upd HC z2 (.tup [.int best, .ref q2]) = HD at hqD sD ⊢
      have s1D := s1A.trans sD
      refine ⟨_, rfl, .ref q2, _, _, _, true, rfl, .ty "tuple", .base (.tup hqD), kit_ty (by decide +kernel), true, rfl, iteF ?_⟩
      refine ⟨_, rfl, _, _, rfl, len_tup hqD, rfl, _, rfl, ite2 (fun c => absurd c (by simp)) (fun _ => ?_)⟩
      refine ⟨_, rfl, q2, _, 1, _, rfl, rfl, SqT.of hqD, rfl, _, _, rfl, rfl, _, rfl, ite2 (fun c => ?_) (fun _ => ?_)⟩
      · have : p1 < 1 := of_decide_eq_true c
        omega
      have gl : ((g.map V.int).length : Int) = (g.length : Int) := by rw [List.length_map]
      refine ⟨_, rfl, q2, _, 0, _, rfl, rfl, SqT.of hqD, rfl, _, rfl, _, _, rfl, rfl, .inr (by constructor <;> omega), _, rfl, _, rfl, q2, _, 1, _, rfl, rfl, SqT.of hqD, rfl,
        _, _, rfl, rfl, .inr (by constructor <;> omega), rfl, _, rfl, ite2 (fun c => ?_) (fun _ => ?_)⟩
      · rw [gl] at c
        have c1 : (!decide (V.int (m1 * (g.length : Int)) = V.int (best * p1))) = true := c
        rw [decide_eq_true (congrArg V.int ht2)] at c1
        cases c1
      dsimp only [tNext, tRet, tOp, tCons]
      refine ⟨_, rfl, q2, _, 1, _, rfl, rfl, SqT.of hqD, rfl, _, _, rfl, rfl, _, _, rfl, by constructor <;> omega, fun D4 hD4 => ?_⟩
      refine lc_rng (r := fun _ _ => none) (sz4 (by omega)) hD4 ?_ ?_
      · intro i H' hi hH Ky Kn _ hn
        have hqH := hH _ _ hqD
        refine ⟨rfl, _, rfl, q2, _, 0, _, rfl, rfl, SqT.of hqH, rfl, m1, rfl, _, rfl, _, _, rfl, rfl, by omega, rfl, _, rfl, ?_⟩
        have ei : (2 : Int) + (i : Int) = ((2 + i : Nat) : Int) := by omega
        refine ite2 (fun c1 => ?_) (fun _ => iteF (hn rfl))
        refine ⟨_, rfl, q2, _, 1, _, rfl, rfl, SqT.of hqH, rfl, p1, rfl, _, rfl, _, _, rfl, rfl, by omega, rfl, _, rfl, ?_⟩
        refine ite2 (fun c2 => ?_) (fun _ => hn rfl)
        exfalso
        have z1 : V.int (m1.fmod (2 + (i : Int))) = V.int 0 := of_decide_eq_true c1
        have z2 : V.int (p1.fmod (2 + (i : Int))) = V.int 0 := of_decide_eq_true c2
        have z1 := V.int.inj z1
        have z2 := V.int.inj z2
        rw [ei] at z1 z2
        exact ht3 (2 + i) (by omega) ⟨Int.dvd_of_fmod_eq_zero z1, Int.dvd_of_fmod_eq_zero z2⟩
      · have en : ∀ (xs : List V) (j : Nat), fm (fun _ _ => (none : Option V)) j xs = [] := by
          intro xs
          induction xs with
          | nil => exact fun _ => rfl
          | cons x xs ih =>
            intro j
            unfold fm
            rw [ih]
            rfl
        rw [en]
        refine ⟨(by show 0 ≤ sizeLine; decide), fun l6 hl6 => ?_⟩
        have sE : Same HD (upd HD D4 (.lst [])) := Same.new hD4
        have sF : Same HD (upd (upd HD D4 (.lst [])) l6 (.lst [])) := sE.trans (Same.new hl6)
        exact ⟨_, _, .lst (SqL.of (upd_new hl6 upd_same)) .nil, .lst (SqL.of upd_same) .nil, shaped_ints [], rfl, k _ (s1D.trans sF)⟩
end
end KG
namespace KG
open PySem L2
section
variable {P : Program} {w : World} {K : PySem.W.Frag} {mg : Str → Option Value} {base : Heap}
theorem PenAt.same {H H' : Hp} {p c : Addr} {ns : List Int} {n : Nat} (h : PenAt H p c ns n) (s : Same H H') : PenAt H' p c ns n := by
  obtain ⟨t, g, a, b, d⟩ := h
  exact ⟨t, g, s _ _ a, s _ _ b, d⟩
theorem PairAt.same {H H' : Hp} {z a b : Addr} {T : List (Option Int)} {G : List Int} (h : PairAt H z a b T G) (s : Same H H') : PairAt H' z a b T G :=
  ⟨s _ _ h.1, s _ _ h.2.1, s _ _ h.2.2⟩
theorem slope_sp {C : Addr} {x : Addr} {T : List (Option Int)} {G : List Int} {p e : Nat} {H : Hp} {Q : VK} {E : XK} {best s r : Int} (hG : GrowAt C H x T G p e)
    (g1 : 1 ≤ G.length) (g2 : G.length ≤ 60) (gt : G.length ≤ T.length) (big : T.length ≤ 4000) (hb : best ∈ lastG T G) (hbl : ∀ y ∈ lastG T G, y ≤ best)
    (hv : ∀ (m : Int) (p : Nat), 1 ≤ p → p ≤ G.length → best * (p : Int) = m * (G.length : Int) → m.fdiv (gcdI m p) = s ∧ (p : Int).fdiv (gcdI m p) = r)
    (k : ∀ q H', H q = none → Same H H' → H' q = some (.tup [.int s, .int r]) → Q (.ref q) H') : spSlope C [.ref x] H Q E := by
  have hS : SetAt T G p e := by
    obtain ⟨_, _, _, hS, _⟩ := hG
    exact hS
  refine ⟨x, T, G, p, e, rfl, hG, g1, g2, gt, big, fun z => ?_, fun m hm hml q H' hq sq hq2 => ?_⟩
  · rw [(nil_iff hS g1 gt).mp z] at hb
    cases hb
  · obtain ⟨e1, e2⟩ := hv m p (hS.p1 g1 gt).1 (hS.p1 g1 gt).2.1 (best_eq hS g1 gt hm hml hb hbl)
    rw [e1, e2] at hq2
    exact k q H' hq sq hq2
theorem slope1 (best : Int) : ∀ (m : Int) (p : Nat), 1 ≤ p → p ≤ 1 → best * (p : Int) = m * ((1 : Nat) : Int) → m.fdiv (gcdI m p) = best ∧ (p : Int).fdiv (gcdI m p) = 1 := by
  intro m p h1 h2 h
  obtain rfl : p = 1 := by omega
  have : m = best := by omega
  subst this
  have : gcdI m 1 = 1 := by
    unfold gcdI
    rw [Nat.gcd_one_right]
    rfl
  rw [this]
  exact ⟨Int.fdiv_one _, rfl⟩
theorem slope4 : ∀ (m : Int) (p : Nat), 1 ≤ p → p ≤ 4 → 6 * (p : Int) = m * ((4 : Nat) : Int) → m.fdiv (gcdI m p) = 3 ∧ (p : Int).fdiv (gcdI m p) = 2 := by
  intro m p h1 h2 h
  have : (p = 2 ∧ m = 3) ∨ (p = 4 ∧ m = 6) := by omega
  rcases this with ⟨rfl, rfl⟩ | ⟨rfl, rfl⟩
  · exact ⟨by decide, by decide⟩
  · exact ⟨by decide, by decide⟩
theorem GrowAt.cls {C : Addr} {H : Hp} {x : Addr} {T : List (Option Int)} {G : List Int} {p e : Nat} (h : GrowAt C H x T G p e) : ∃ dx fs, H x = some (.ins C dx fs) := by
  obtain ⟨dx, _, _, _, h, _⟩ := h
  exact ⟨_, _, h⟩
/-- an attribute of a growth that was just made -/
theorem prop_sp {C : Addr} {x : Addr} {T : List (Option Int)} {G : List Int} {p e : Nat} {H : Hp} {Q : VK} {E : XK} {sp : Sp} (hG : GrowAt C H x T G p e)
    (h : sp [.ref x] H Q E) : ∃ a dx fs, V.ref x = .ref a ∧ H a = some (.ins C dx fs) ∧ sp (.ref a :: []) H Q E := by
  obtain ⟨dx, fs, hx⟩ := hG.cls
  exact ⟨x, dx, fs, rfl, hx, h⟩
def mn (n : Int) : Int := if 0 < n then 0 else n
def minV : V → V
  | .int n => .int (mn n)
  | x => x
def spLaw (K : PySem.W.Frag) : Sp := fun vs H Q _ => ∃ (a : Addr) (ns : List Int), vs = [.ref a] ∧ SqL K H a (ns.map V.int) ∧ ns.length ≤ 63 ∧ ∀ H', Q (.bl true) H'
theorem law_g {f : Addr} {fd : FuncData} (TG : TxG K mg) (F : Fun K "law" "law" s_law f fd) :
    FnG P w K mg base CX0 7 f fd ["_law_script"] (spLaw K) := by
  have T := TG.T
  refine F.okG sc_law (fun vs H Q E h => ?_) (fun cdv A outer s H vs Q E hA hr h => ?_)
  · obtain ⟨a, ns, rfl, _⟩ := h
    rfl
  · obtain ⟨a, ns, rfl, hs, hlen, k⟩ := h
    refine ⟨_, (pss_cons (ps_set (i := 1) sc_law.nd rfl (Or.inr rfl) (pe_kf (kp_pen T) hA hr (by rfl) (pa_cons (pv 0) pa_nil)))
 (pss_cons (ps_for PassesOwn.never rfl (pi_range1 (by rfl) (T.nb _ (by decide)) (pa_cons (pe_int) pa_nil)) (pg_name (i := 2) sc_law.nd rfl (Or.inl rfl))
 (pss_cons (ps_set (i := 3) sc_law.nd rfl (Or.inl rfl) (pe_kf (kp_ltold T) hA hr (by rfl) (pa_cons (pv 1) pa_nil)))
 (pss_cons (ps_set (i := 4) sc_law.nd rfl (Or.inl rfl) (pe_tup (pa_cons (pe_lc (own := [("_law_value", 7)]) (g := gName 7) (tt := tYes) rfl sc_law.nd (pi_list (pe_ix (ix_tup : IxR _ (rIxT K)) (pv 3) (pe_int) (fun _ _ => rfl))) (blkOk_by (N := n_law) (sc := defScope s_law) (by decide +kernel)) (fun _ _ _ _ _ => pg_name (i := 7) sc_law.nd rfl (Or.inl rfl)) (fun _ _ _ _ _ => pts_nil) (fun _ _ _ _ _ => (pe_kf (kp_pick T) hA hr (by rfl) (pa_cons (pv 1) (pa_cons (pe_lst (pa_cons (pe_non) (pa_cons (pv 7) pa_nil))) pa_nil))))) (pa_cons (pe_lc (own := [("_law_gain", 8)]) (g := gName 8) (tt := tYes) rfl sc_law.nd (pi_list (pe_ix (ix_tup : IxR _ (rIxT K)) (pv 3) (pe_int) (fun _ _ => rfl))) (blkOk_by (N := n_law) (sc := defScope s_law) (by decide +kernel)) (fun _ _ _ _ _ => pg_name (i := 8) sc_law.nd rfl (Or.inl rfl)) (fun _ _ _ _ _ => pts_nil) (fun _ _ _ _ _ => (pe_callB (call_min2 rfl) (by rfl) (T.nb _ (by decide)) (by decide +kernel) (pa_cons (pe_callTy call_intI (by rfl) (T.nb _ (by decide)) (by decide +kernel) (pa_cons (pv 8) pa_nil)) (pa_cons (pe_int) pa_nil))))) pa_nil))))
 (pss_cons (ps_set (i := 5) sc_law.nd rfl (Or.inl rfl) (pe_tup (pa_cons (pe_lc (own := [("_law_value", 7)]) (g := gName 7) (tt := tYes) rfl sc_law.nd (pi_list (pe_ix (ix_tup : IxR _ (rIxT K)) (pv 3) (pe_int) (fun _ _ => rfl))) (blkOk_by (N := n_law) (sc := defScope s_law) (by decide +kernel)) (fun _ _ _ _ _ => pg_name (i := 7) sc_law.nd rfl (Or.inl rfl)) (fun _ _ _ _ _ => pts_nil) (fun _ _ _ _ _ => (pe_non))) (pa_cons (pe_ix (ix_tup : IxR _ (rIxT K)) (pv 3) (pe_int) (fun _ _ => rfl)) pa_nil))))
 (pss_cons (ps_if (PW.pt (pw_or (pt_not (pt_val (pe_kp (kp_lright TG) hA hr (by rfl) (pa_cons (pv 3) pa_nil)))) (pw_or (pt_not (pt_val (pe_kp (kp_lright TG) hA hr (by rfl) (pa_cons (pv 4) pa_nil)))) (pw_or1 (pt_not (pt_val (pe_kp (kp_lright TG) hA hr (by rfl) (pa_cons (pv 5) pa_nil))))))))
 (pss_one (ps_ret (pe_bl))) pss_nil)
 (pss_one (ps_if (pt_not (pt_val (pe_kp (kp_lright TG) hA hr (by rfl) (pa_cons (pe_tup (pa_cons (pe_op op_cat (pe_ix (ix_tup : IxR _ (rIxT K)) (pv 3) (pe_int) (fun _ _ => rfl)) (pe_op op_rep (pe_lst (pa_cons (pe_non) pa_nil)) (pe_callB call_len (by rfl) (T.nb _ (by decide)) PySem.boot_len (pa_cons (pe_ix (ix_tup : IxR _ (rIxT K)) (pv 3) (pe_int) (fun _ _ => rfl)) pa_nil)))) (pa_cons (pe_ix (ix_tup : IxR _ (rIxT K)) (pv 3) (pe_int) (fun _ _ => rfl)) pa_nil))) pa_nil))))
 (pss_one (ps_ret (pe_bl))) pss_nil)))))))
 (pss_cons (ps_set (i := 6) sc_law.nd rfl (Or.inl rfl) (pe_lst (pa_cons (pe_kpr (kp_greatest TG) TG.cls hr (pe_ksm (kp_constant TG) hr (pe_glob (v := .ref (gC mg)) rfl TG.mgC rfl) (pa_cons (pe_int) pa_nil))) (pa_cons (pe_kpr (kp_greatest TG) TG.cls hr (pe_ksm (kp_ramp TG) hr (pe_glob (v := .ref (gC mg)) rfl TG.mgC rfl) (pa_cons (pe_un un_neg (pe_int)) (pa_cons (pe_int) pa_nil)))) (pa_cons (pe_kpr (kp_greatest TG) TG.cls hr (pe_ksm (kp_ramp0 TG) hr (pe_glob (v := .ref (gC mg)) rfl TG.mgC rfl) (pa_cons (pe_int) pa_nil))) (pa_cons (pe_kpr (kp_greatest TG) TG.cls hr (pe_ksm0 (kp_gnone TG) hr (pe_glob (v := .ref (gC mg)) rfl TG.mgC rfl))) pa_nil))))))
 (pss_cons (ps_if (pt_cmpR (op_neD hr.units) (pv 6) (pe_lst (pa_cons (pe_int) (pa_cons (pe_int) (pa_cons (pe_non) (pa_cons (pe_non) pa_nil))))) (nomark _))
 (pss_one (ps_ret (pe_bl))) pss_nil)
 (pss_cons (ps_set (i := 6) sc_law.nd rfl (Or.inl rfl) (pe_lst (pa_cons (pe_kpr (kp_slope TG) TG.cls hr (pe_ksm (kp_constant TG) hr (pe_glob (v := .ref (gC mg)) rfl TG.mgC rfl) (pa_cons (pe_int) pa_nil))) (pa_cons (pe_kpr (kp_slope TG) TG.cls hr (pe_ksm (kp_ramp0 TG) hr (pe_glob (v := .ref (gC mg)) rfl TG.mgC rfl) (pa_cons (pe_un un_neg (pe_int)) pa_nil))) (pa_cons (pe_kpr (kp_slope TG) TG.cls hr (pe_kmk (kp_init TG) hr (by rfl) TG.mgC (pa_cons (pe_lst (pa_cons (pe_int) (pa_cons (pe_int) (pa_cons (pe_non) (pa_cons (pe_int) pa_nil))))) (pa_cons (pe_lst (pa_cons (pe_int) (pa_cons (pe_int) (pa_cons (pe_int) (pa_cons (pe_int) pa_nil))))) pa_nil)))) pa_nil)))))
 (pss_one (ps_ret (pe_cmpR (op_eqD hr.units) (pv 6) (pe_lst (pa_cons (pe_tup (pa_cons (pe_int) (pa_cons (pe_int) pa_nil))) (pa_cons (pe_tup (pa_cons (pe_un un_neg (pe_int)) (pa_cons (pe_int) pa_nil))) (pa_cons (pe_tup (pa_cons (pe_int) (pa_cons (pe_int) pa_nil))) pa_nil)))) (nomark _))))))))), ?_⟩
    refine ⟨_, rfl, a, ns, rfl, hs, hlen, fun p c H1 hp hc s1 pen => ?_⟩
    dsimp only [gName, tSeq, tAsg]
    refine ⟨_, rfl, by decide, by decide, ?_⟩
    refine for_range (lo := 0) (n := 20) (fun i σ H' => ∃ (n : Nat) (v2 v3 v4 v5 : Option V), n ≤ 100 * i ∧ PenAt H' p c ns n ∧
      σ = [some (.ref a), some (.ref p), v2, v3, v4, v5, none, none, none]) ⟨0, _, _, _, _, by omega, pen, rfl⟩ ?_ ?_
    · rintro i σ H' hi ⟨n, v2, v3, v4, v5, hn, pen, rfl⟩
      refine ⟨_, rfl, p, c, ns, n, rfl, pen, hlen, by omega, fun z a1 b1 t g n2 H2 pair sm hfa hfb hfz g1 g2 gt t9 pen2 hn2 fr2 => ?_⟩
      have nap := (pen.ne hfa).1
      have nbp := (pen.ne hfb).1
      have nzp := (pen.ne hfz).1
      obtain ⟨hz2, ha2, hb2⟩ := pair
      dsimp only [gName, tSeq, tAsg, tTup, tCons]
      refine ⟨_, rfl, z, _, 0, _, rfl, rfl, SqT.of hz2, rfl, a1, rfl, ⟨_, SqL.of ha2⟩, fun D hD => ?_⟩
      obtain ⟨nDp, nDc⟩ := pen2.ne hD
      refine lc_list (K := K) (a := a1) (xs := t.map vO) (fun i H3 => ∃ (ls : List (Option Int)) (n3 : Nat), ls.length = i ∧ Sm ls ∧ H3 D = some (.lst (ls.map vO)) ∧
        PenAt H3 p c ns n3 ∧ n3 ≤ n2 + i ∧ But p H2 H3) ⟨[], n2, rfl, Sm.nil, upd_same, pen2.upd nDp nDc, by omega, But.of (Same.new hD)⟩ ?_ ?_ ?_
      · rintro i H3 _ ⟨ls, n3, _, _, _, _, _, fr3⟩
        exact SqL.of (fr3 a1 nap _ ha2)
      · rintro i x H3 hx ⟨ls, n3, hl, hsm, hd, hp3, hn3, fr3⟩
        obtain ⟨o, ho, rfl⟩ := opt_at hx
        have hit : i < t.length := by
          rcases Nat.lt_or_ge i t.length with y | y
          · exact y
          · rw [List.getElem?_eq_none y] at ho
            cases ho
        refine ⟨rfl, yes_run ?_⟩
        refine ⟨_, rfl, _, rfl, (by show 2 ≤ sizeLine; decide), fun l hl' => ?_⟩
        obtain ⟨nlp, nlc⟩ := hp3.ne hl'
        refine ⟨p, c, l, [.non, vO o], ns, n3, rfl, hp3.upd nlp nlc, hlen, upd_same, nlp, Nat.le_of_ble_eq_true rfl, Nat.le_of_ble_eq_true rfl, by omega, fun v H4 hv pen4 fr4 => ?_⟩
        obtain ⟨o', ho', rfl⟩ : ∃ o', (o' = none ∨ o' = o) ∧ v = vO o' := by
          simp only [List.mem_cons, List.mem_nil_iff, or_false] at hv
          rcases hv with y | y
          · exact ⟨none, .inl rfl, y⟩
          · exact ⟨o, .inr rfl, y⟩
        refine ⟨_, fr4 D nDp _ (upd_new hl' hd), ?_, ls ++ [o'], n3 + 1, by simp [hl], hsm.snoc ?_, ?_, pen4.upd nDp nDc, by omega,
          KG.But.fill hD (KG.But.trans fr3 (KG.But.trans (But.of (Same.new hl')) fr4))⟩
        · rw [List.length_map, hl]
          exact Nat.lt_of_lt_of_le hit (sz4 (by omega))
        · intro v' hv'
          rcases ho' with y | y
          · rw [y] at hv'
            cases hv'
          · rw [y] at hv'
            exact sm o (List.mem_of_getElem? ho) v' hv'
        · rw [upd_same, List.map_append]
          rfl
      rintro H3 ⟨ls, n3, hl, hsmL, hd, pen3, hn3, fr3⟩
      rw [List.length_map] at hl hn3
      have hb3 := fr3 b1 nbp _ hb2
      have hz3 := fr3 z nzp _ hz2
      have ha3 := fr3 a1 nap _ ha2
      refine tlc_list (r := fun _ x => some (minV x)) (xs := g.map V.int) (SqL.of hb3) (by rw [List.length_map]; exact sz4 (by omega))
        (fun R h => ⟨_, rfl, z, _, 1, _, rfl, rfl, SqT.of hz3, rfl, h⟩) ?_ ?_
      · intro i x H' hx _ Ky Kn hy _
        obtain ⟨n, _, rfl⟩ := int_at hx
        exact ⟨rfl, yes_run ⟨_, rfl, n, rfl, n, 0, rfl, hy _ rfl⟩⟩
      intro D2 hD2
      rw [fm_map minV _ (fun _ _ => rfl), List.map_map]
      have eg : (minV ∘ V.int : Int → V) = fun n => V.int (mn n) := rfl
      have em : g.map (minV ∘ V.int) = (g.map mn).map V.int := by
        rw [List.map_map]
        rfl
      rw [em]
      refine ⟨(by show 2 ≤ sizeLine; decide), fun z2 hz2' => ?_⟩
      have s4 : Same H3 (upd (upd H3 D2 (.lst ((g.map mn).map V.int))) z2 (.tup [.ref D, .ref D2])) := (Same.new hD2).trans (Same.new hz2')
      have pair2 : PairAt (upd (upd H3 D2 (.lst ((g.map mn).map V.int))) z2 (.tup [.ref D, .ref D2])) z2 D D2 ls (g.map mn) :=
        ⟨upd_same, s4 _ _ hd, upd_new hz2' upd_same⟩
      generalize upd (upd H3 D2 (.lst ((g.map mn).map V.int))) z2 (.tup [.ref D, .ref D2]) = H4 at s4 pair2 ⊢
      have pair4 : PairAt H4 z a1 b1 t g := PairAt.same ⟨hz3, ha3, hb3⟩ s4
      refine tlc_list (r := fun _ _ => some .non) (xs := t.map vO) (SqL.of pair4.2.1) (by rw [List.length_map]; exact sz4 (by omega))
        (fun R h => ⟨_, rfl, z, _, 0, _, rfl, rfl, SqT.of pair4.1, rfl, h⟩) ?_ ?_
      · intro i x H' hx _ Ky Kn hy _
        exact ⟨rfl, yes_run (hy _ rfl)⟩
      intro D3 hD3
      rw [fm_map (fun _ => V.non) _ (fun _ _ => rfl), List.map_map]
      have e0 : t.map ((fun _ => V.non) ∘ vO) = (t.map fun _ => (none : Option Int)).map vO := by
        rw [List.map_map]
        rfl
      rw [e0]
      have s5 : Same H4 (upd H4 D3 (.lst ((t.map fun _ => (none : Option Int)).map vO))) := Same.new hD3
      refine ⟨_, rfl, z, _, 1, _, rfl, rfl, SqT.of (s5 _ _ pair4.1), rfl, (by show 2 ≤ sizeLine; decide), fun z3 hz3' => ?_⟩
      have s6 : Same H4 (upd (upd H4 D3 (.lst ((t.map fun _ => (none : Option Int)).map vO))) z3 (.tup [.ref D3, .ref b1])) := s5.trans (Same.new hz3')
      have pair3 : PairAt (upd (upd H4 D3 (.lst ((t.map fun _ => (none : Option Int)).map vO))) z3 (.tup [.ref D3, .ref b1])) z3 D3 b1 (t.map fun _ => none) g :=
        ⟨upd_same, upd_new hz3' upd_same, s6 _ _ pair4.2.2⟩
      generalize upd (upd H4 D3 (.lst ((t.map fun _ => (none : Option Int)).map vO))) z3 (.tup [.ref D3, .ref b1]) = H5 at s6 pair3 ⊢
      have smN : Sm (t.map fun _ => (none : Option Int)) := by
        intro o ho v hv
        obtain ⟨_, _, rfl⟩ := List.mem_map.mp ho
        cases hv
      refine ⟨_, rfl, z, a1, b1, t, g, rfl, pair4.same s6, sm, g1, by omega, gt, by omega, fun H6 s7 => ⟨_, rfl, iteF ?_⟩⟩
      refine ⟨_, rfl, z2, D, D2, ls, g.map mn, rfl, pair2.same (s6.trans s7), hsmL, by rw [List.length_map]; omega, by rw [List.length_map]; omega,
        by rw [List.length_map]; omega, by omega, fun H7 s8 => ⟨_, rfl, iteF ?_⟩⟩
      refine ⟨_, rfl, z3, D3, b1, _, g, rfl, pair3.same (s7.trans s8), smN, g1, by omega, by rw [List.length_map]; omega, by rw [List.length_map]; omega, fun H8 s9 => ⟨_, rfl, iteF ?_⟩⟩
      have s10 := ((s6.trans s7).trans s8).trans s9
      have pair8 := pair4.same s10
      have pen8 := pen3.same (s4.trans s10)
      refine ⟨_, rfl, z, _, 0, _, rfl, rfl, SqT.of pair8.1, rfl, (by show 1 ≤ sizeLine; decide), fun l hl' => ?_⟩
      have t1 : Same H8 (upd H8 l (.lst [.non])) := Same.new hl'
      refine ⟨_, rfl, z, _, 1, _, rfl, rfl, SqT.of (t1 _ _ pair8.1), rfl, _, _, rfl, len_lst (t1 _ _ pair8.2.2), ?_⟩
      have gl : ((g.map V.int).length : Int) = (g.length : Int) := by rw [List.length_map]
      rw [gl]
      refine ⟨l, _, [.non], rfl, rfl, upd_same, by omega, by omega, ?_, fun q hq => ?_⟩
      · rw [Int.toNat_natCast]
        exact sz4 (by show 1 * g.length ≤ 4000; omega)
      rw [Int.toNat_natCast]
      have ef : (List.replicate g.length [V.non]).flatten = (List.replicate g.length (none : Option Int)).map vO := by
        rw [List.flatten_replicate_singleton, List.map_replicate]
        rfl
      rw [ef]
      have t2 : Same H8 (upd (upd H8 l (.lst [.non])) q (.lst ((List.replicate g.length (none : Option Int)).map vO))) := t1.trans (Same.new hq)
      refine ⟨a1, q, t.map vO, _, rfl, rfl, t2 _ _ pair8.2.1, upd_same, ?_, fun r hr => ?_⟩
      · rw [List.length_map, List.length_map, List.length_replicate]
        exact sz4 (by omega)
      rw [← List.map_append]
      have t3 : Same H8 (upd (upd (upd H8 l (.lst [.non])) q (.lst ((List.replicate g.length (none : Option Int)).map vO))) r
        (.lst ((t ++ List.replicate g.length none).map vO))) := t2.trans (Same.new hr)
      have hr' : upd (upd (upd H8 l (.lst [.non])) q (.lst ((List.replicate g.length (none : Option Int)).map vO))) r
        (.lst ((t ++ List.replicate g.length none).map vO)) r = some (.lst ((t ++ List.replicate g.length none).map vO)) := upd_same
      generalize upd (upd (upd H8 l (.lst [.non])) q (.lst ((List.replicate g.length (none : Option Int)).map vO))) r
        (.lst ((t ++ List.replicate g.length none).map vO)) = H9 at t3 hr' ⊢
      refine ⟨_, rfl, z, _, 1, _, rfl, rfl, SqT.of (t3 _ _ pair8.1), rfl, (by show 2 ≤ sizeLine; decide), fun z4 hz4 => ?_⟩
      have t4 : Same H9 (upd H9 z4 (.tup [.ref r, .ref b1])) := Same.new hz4
      have smA : Sm (t ++ List.replicate g.length none) := by
        intro o ho v hv
        rcases List.mem_append.mp ho with y | y
        · exact sm o y v hv
        · rw [(List.mem_replicate.mp y).2] at hv
          cases hv
      refine ⟨z4, r, b1, t ++ List.replicate g.length none, g, rfl, ⟨upd_same, t4 _ _ hr', t4 _ _ (t3 _ _ pair8.2.2)⟩, smA, g1, by omega,
        by rw [List.length_append]; omega, by rw [List.length_append, List.length_replicate]; omega, fun HA sA => ⟨_, rfl, iteF ?_⟩⟩
      exact ⟨n3, _, _, _, _, by omega, pen8.same ((t3.trans t4).trans sA), rfl⟩
    · rintro σ H' ⟨n, v2, v3, v4, v5, hn, pen, rfl⟩
      dsimp only [gName, tSeq, tAsg]
      refine ⟨rfl, [some 4], [0], rfl, fun x1 p1 e1 H2 _ s2 gr1 => ?_⟩
      refine prop_sp gr1 (great_sp (v := .int 4) gr1 (by decide) (by decide) (by decide) (by decide) (.inr (.inr ⟨by decide, 4, by decide, by decide, rfl⟩)) fun H3 s3 => ?_)
      refine ⟨rfl, _, rfl, [some 7], [-2], rfl, fun x2 p2 e2 H4 _ s4 gr2 => ?_⟩
      refine prop_sp gr2 (great_sp (v := .int 7) gr2 (by decide) (by decide) (by decide) (by decide) (.inr (.inr ⟨by decide, 7, by decide, by decide, rfl⟩)) fun H5 s5 => ?_)
      refine ⟨rfl, [some 0], [1], rfl, fun x3 p3 e3 H6 _ s6 gr3 => ?_⟩
      refine prop_sp gr3 (great_sp (v := .non) gr3 (by decide) (by decide) (by decide) (by decide) (.inl ⟨by decide, rfl⟩) fun H7 s7 => ?_)
      refine ⟨rfl, [none], [0], rfl, fun x4 p4 e4 H8 _ s8 gr4 => ?_⟩
      refine prop_sp gr4 (great_sp (v := .non) gr4 (by decide) (by decide) (by decide) (by decide) (.inr (.inl ⟨by decide, by decide, rfl⟩)) fun H9 s9 => ?_)
      refine ⟨(by show 4 ≤ sizeLine; decide), fun l hl => ?_⟩
      refine ⟨_, rfl, (by show 4 ≤ sizeLine; decide), fun l2 hl2 => ?_⟩
      refine ⟨.list [.int 4, .int 7, .none, .none], .list [.int 4, .int 7, .none, .none], .lst (SqL.of (upd_new hl2 upd_same)) (.cons (.int 4) (.cons (.int 7) (.cons .non (.cons .non .nil)))),
        .lst (SqL.of upd_same) (.cons (.int 4) (.cons (.int 7) (.cons .non (.cons .non .nil)))), by decide +kernel, by decide +kernel, _, rfl, ite2 (fun c => absurd c (by decide +kernel)) (fun _ => ?_)⟩
      dsimp only [tNext, tSeq, tAsg]
      refine ⟨rfl, [some 4], [0], rfl, fun x5 p5 e5 HB _ sB gr5 => ?_⟩
      refine prop_sp gr5 (slope_sp gr5 (by decide) (by decide) (by decide) (by decide) (by decide) (by decide) (slope1 0) fun q1 HC _ sC hq1 => ?_)
      refine ⟨rfl, _, rfl, [some 0], [-2], rfl, fun x6 p6 e6 HD _ sD gr6 => ?_⟩
      refine prop_sp gr6 (slope_sp gr6 (by decide) (by decide) (by decide) (by decide) (by decide) (by decide) (slope1 (-2)) fun q2 HE _ sE hq2 => ?_)
      refine ⟨(by show 4 ≤ sizeLine; decide), fun la hla => ⟨(by show 4 ≤ sizeLine; decide), fun lb hlb => fun x7 dx hx hdx ne => ?_⟩⟩
      have fx : ∀ u : HO, upd (upd (upd HE la (.lst [.int 0, .int 0, .non, .int 0])) lb (.lst [.int 6, .int 0, .int 6, .int 2])) dx u x7 = none := fun u => by rw [upd_oth' ne.symm]; exact hx
      refine ⟨x7, dx, la, lb, [some 0, some 0, none, some 0], [6, 0, 6, 2], rfl, upd_same, SqL.of (upd_new (fx _) (upd_new hdx (upd_new hlb upd_same))),
        .inl (SqL.of (upd_new (fx _) (upd_new hdx upd_same))), by decide, by decide, by decide, by decide, fun p7 e7 HF hbF gr7 => ⟨rfl, ?_⟩⟩
      have sF : Same HE HF := (made_same ((Same.new hla).trans (Same.new hlb)) hx hdx hbF).2
      refine prop_sp gr7 (slope_sp (best := 6) gr7 (by decide) (by decide) (by decide) (by decide) (by decide) (by decide) slope4 fun q3 HG _ sG hq3 => ?_)
      have hq1' := sG _ _ (sF _ _ (sE _ _ (sD _ _ hq1)))
      have hq2' := sG _ _ (sF _ _ hq2)
      refine ⟨(by show 3 ≤ sizeLine; decide), fun l3 hl3 => ?_⟩
      have u1 : Same HG (upd HG l3 (.lst [.ref q1, .ref q2, .ref q3])) := Same.new hl3
      refine ⟨_, rfl, (by show 2 ≤ sizeLine; decide), fun t1 ht1 => ?_⟩
      refine ⟨_, rfl, (by show 2 ≤ sizeLine; decide), fun t2 ht2 => ?_⟩
      refine ⟨(by show 2 ≤ sizeLine; decide), fun t3 ht3 => ?_⟩
      refine ⟨(by show 3 ≤ sizeLine; decide), fun l4 hl4 => ?_⟩
      have w1 : Same (upd HG l3 (.lst [.ref q1, .ref q2, .ref q3])) (upd (upd HG l3 (.lst [.ref q1, .ref q2, .ref q3])) t1 (.tup [.int 0, .int 1])) := Same.new ht1
      have w2 : Same (upd (upd HG l3 (.lst [.ref q1, .ref q2, .ref q3])) t1 (.tup [.int 0, .int 1])) (upd (upd (upd HG l3 (.lst [.ref q1, .ref q2, .ref q3])) t1 (.tup [.int 0, .int 1])) t2 (.tup [.int (-2), .int 1])) := Same.new ht2
      have w3 : Same (upd (upd (upd HG l3 (.lst [.ref q1, .ref q2, .ref q3])) t1 (.tup [.int 0, .int 1])) t2 (.tup [.int (-2), .int 1]))
        (upd (upd (upd (upd HG l3 (.lst [.ref q1, .ref q2, .ref q3])) t1 (.tup [.int 0, .int 1])) t2 (.tup [.int (-2), .int 1])) t3 (.tup [.int 3, .int 2])) := Same.new ht3
      have w4 : Same (upd (upd (upd (upd HG l3 (.lst [.ref q1, .ref q2, .ref q3])) t1 (.tup [.int 0, .int 1])) t2 (.tup [.int (-2), .int 1])) t3 (.tup [.int 3, .int 2]))
        (upd (upd (upd (upd (upd HG l3 (.lst [.ref q1, .ref q2, .ref q3])) t1 (.tup [.int 0, .int 1])) t2 (.tup [.int (-2), .int 1])) t3 (.tup [.int 3, .int 2])) l4 (.lst [.ref t1, .ref t2, .ref t3])) := Same.new hl4
      have w34 := w3.trans w4
      have w24 := w2.trans w34
      have w14 := w1.trans w24
      have w04 := u1.trans w14
      have r3 := w14 l3 _ upd_same
      have r1 := w24 t1 _ upd_same
      have r2 := w34 t2 _ upd_same
      have r4 := w4 t3 _ upd_same
      have dpx : ∀ {H : Hp} {x y z : Addr}, H x = some (.tup [.int 0, .int 1]) → H y = some (.tup [.int (-2), .int 1]) → H z = some (.tup [.int 3, .int 2]) →
          DpAll K H [.ref x, .ref y, .ref z] [.tuple [.int 0, .int 1], .tuple [.int (-2), .int 1], .tuple [.int 3, .int 2]] := fun h1 h2 h3 =>
        .cons (.tup (SqT.of h1) (.cons (.int 0) (.cons (.int 1) .nil))) (.cons (.tup (SqT.of h2) (.cons (.int (-2)) (.cons (.int 1) .nil)))
          (.cons (.tup (SqT.of h3) (.cons (.int 3) (.cons (.int 2) .nil))) .nil))
      refine ⟨_, _, .lst (SqL.of r3) (dpx (w04 _ _ hq1') (w04 _ _ hq2') (w04 _ _ hq3)), .lst (SqL.of upd_same) (dpx r1 r2 r4), by decide +kernel, by decide +kernel, ?_⟩
      have eqt : PyData.eqv (.list [.tuple [.int 0, .int 1], .tuple [.int (-2), .int 1], .tuple [.int 3, .int 2]]) (.list [.tuple [.int 0, .int 1], .tuple [.int (-2), .int 1], .tuple [.int 3, .int 2]]) = true := by
        decide +kernel
      rw [eqt]
      exact k _
end
end KG
namespace KG
open PySem L2
def intB (K : PySem.W.Frag) (x : Str) (i : Int) : Bool := match PySem.W.nsIn K mainGlobals x with
  | some (some (.int j _)) => decide (j = i)
  | _ => false
def clsB (K : PySem.W.Frag) (C : Addr) : Bool :=
  PySem.W.plainGet K C Str.empty && (PySem.W.hasDictIn K C && (PySem.W.plainOver K C &&
  (decide (PySem.W.findIn K (.ref C) "__setattr__" = some (some (.builtin "object.__setattr__"))) &&
  (decide (PySem.W.findIn K (.ref C) "told" = some none) && (decide (PySem.W.findIn K (.ref C) "gains" = some none) &&
  (PySem.W.makesIn K C && (PySem.W.keepIn K (.ref C) && (PySem.W.readsIn K C (.type "type") &&
  decide (PySem.W.specialIn K (.ref C) "__getattribute__" = some (some (.builtin "type.__getattribute__")))))))))))
def chk (K : PySem.W.Frag) : Bool :=
  (blts.all fun x => decide (PySem.W.nsIn K mainGlobals x = some none)) &&
  (intB K "MOST_GAINS" 60 && (intB K "MOST_TOLD" 4000 && (decide (PySem.W.nsIn K mainGlobals "gcd" = some (some (.builtin "math.gcd"))) &&
  (match PySem.W.nsIn K mainGlobals "Growth" with
    | some (some (.ref C)) => clsB K C
    | _ => false))))
def dflT (K : PySem.W.Frag) (T : Addr) : Bool := match K.lookup T with
  | some ⟨_, _, .seq its _, _⟩ => match its.toList with
    | [.ref d] => match K.lookup d with
      | some ⟨.type t, _, .seq its2 _, _⟩ => decide (t = "tuple") && (match its2.toList with
        | [.int i _] => decide (i = 0)
        | _ => false)
      | _ => false
    | _ => false
  | _ => false
def dflI (K : PySem.W.Frag) (T : Addr) : Bool := match K.lookup T with
  | some ⟨_, _, .seq its _, _⟩ => match its.toList with
    | [.int i _] => decide (i = 0)
    | _ => false
  | _ => false
section
variable {K : PySem.W.Frag} {mg : Str → Option Value} {h : Heap}
theorem int_of {x : Str} {i : Int} (X : K.In h) (G : h.Ns mainGlobals mg) (e : intB K x i = true) : ∃ t, mg x = some (.int i t) := by
  unfold intB at e
  split at e
  · rename_i j t hj
    have : j = i := of_decide_eq_true e
    subst this
    exact ⟨t, PySem.W.mg_of X G hj⟩
  · cases e
theorem dflT_of {T : Addr} (e : dflT K T = true) : ∃ d, (DflV K (.ref T) [.ref d]) ∧ ∀ H, SqT K H d [.int 0] := by
  unfold dflT at e
  split at e
  · rename_i c dd its n sl ho
    split at e
    · rename_i d hd
      split at e
      · rename_i t dd2 its2 n2 sl2 ho2
        simp only [Bool.and_eq_true, decide_eq_true_eq] at e
        obtain ⟨e1, e2⟩ := e
        split at e2
        · rename_i i tk hi
          have : i = 0 := of_decide_eq_true e2
          subst this
          subst e1
          refine ⟨d, .inr ⟨by simp, T, _, [.ref d], n, rfl, ho, ?_, .cons rfl .nil⟩, fun H => .inr ⟨_, its2, n2, ho2, rfl, rfl, ?_, ?_⟩⟩
          · show Data.seq its n = Data.seq [Value.ref d].toArray n
            rw [← hd]
          · have : its2.size = 1 := by
              rw [← Array.length_toList, hi]
              rfl
            rw [this]
            decide
          · rw [hi]
            exact .cons ⟨tk, rfl⟩ .nil
        · cases e2
      · cases e
    · cases e
  · cases e
theorem dflI_of {T : Addr} (e : dflI K T = true) : DflV K (.ref T) [.int 0] := by
  unfold dflI at e
  split at e
  · rename_i c dd its n sl ho
    split at e
    · rename_i i tk hi
      have : i = 0 := of_decide_eq_true e
      subst this
      refine .inr ⟨by simp, T, _, [.int 0 tk], n, rfl, ho, ?_, .cons ⟨tk, rfl⟩ .nil⟩
      show Data.seq its n = Data.seq [Value.int 0 tk].toArray n
      rw [← hi]
    · cases e
  · cases e
theorem md0 {x q : Str} {st : Stmt} {f : Addr} {od an : Option Addr} {sl : Array (Option Value)} {oc kV dc pm cd ct : Value}
    (l : K.lookup f = some ⟨oc, od, .func (PySem.W.fnOf x q (defArgs st) (defBody st) (defScope st) .none kV dc pm an cd ct), sl⟩)
    (c : PySem.W.codeIn K cd q = true) (k : PySem.W.keepIn K (.ref f) = true) :
    MD K x q st [] f (PySem.W.fnOf x q (defArgs st) (defBody st) (defScope st) .none kV dc pm an cd ct) :=
  ⟨⟨oc, od, .none, kV, dc, pm, an, cd, ct, sl, rfl, l, c, .inl ⟨rfl, rfl⟩, .inl rfl⟩, k⟩
theorem md1 {x q : Str} {st : Stmt} {f T : Addr} {dvs : List V} {od an : Option Addr} {sl : Array (Option Value)} {oc kV dc pm cd ct : Value}
    (l : K.lookup f = some ⟨oc, od, .func (PySem.W.fnOf x q (defArgs st) (defBody st) (defScope st) (.ref T) kV dc pm an cd ct), sl⟩)
    (c : PySem.W.codeIn K cd q = true) (k : PySem.W.keepIn K (.ref f) = true) (d : DflV K (.ref T) dvs) :
    MD K x q st dvs f (PySem.W.fnOf x q (defArgs st) (defBody st) (defScope st) (.ref T) kV dc pm an cd ct) :=
  ⟨⟨oc, od, .ref T, kV, dc, pm, an, cd, ct, sl, rfl, l, c, d, .inl rfl⟩, k⟩
theorem prop_mk {C p g : Addr} {f : Str} {rest : List Value} (a : PySem.W.findIn K (.ref C) f = some (some (.ref p)))
    (b : PySem.W.recIn K p "property" = some (.ref g :: rest)) (c : PySem.W.specialIn K (.ref p) "__get__" = some (some (.builtin "property.__get__")))
    (d : PySem.W.takesIn K (.ref p) = some true) : PropOf K C f p g := ⟨a, c, d, rest, b⟩
theorem sm_mk {C p g : Addr} {m : Str} {rest : List Value} (r : PySem.W.readsIn K C (.type "type") = true)
    (a : PySem.W.findCls K (.ref C) (.type "type") m = some (.get (.builtin "staticmethod.__get__") (.ref p) .none (.ref C)))
    (b : PySem.W.recIn K p "staticmethod" = some (.ref g :: rest))
    (ga : PySem.W.specialIn K (.ref C) "__getattribute__" = some (some (.builtin "type.__getattribute__"))) (k : PySem.W.keepIn K (.ref g) = true) :
    SMet K C m g := ⟨⟨.type "type", p, rest, r, a, b⟩, ga, k⟩
end
theorem fin_mk {P : Program} {w : World} {K : PySem.W.Frag} {mg : Str → Option Value} {h : Heap} {fa : Addr} (X : K.In h) (G : h.Ns mainGlobals mg)
    (hmg : mg "law" = some (.ref fa)) (c : chk K = true)
    {C : Addr}
    {f0 : Addr} {od0 an0 : Option Addr} {sl0 : Array (Option Value)} {oc0 kV0 dc0 pm0 cd0 ct0 : Value}
    {f1 : Addr} {od1 an1 : Option Addr} {sl1 : Array (Option Value)} {oc1 kV1 dc1 pm1 cd1 ct1 : Value}
    {f2 : Addr} {od2 an2 : Option Addr} {sl2 : Array (Option Value)} {oc2 kV2 dc2 pm2 cd2 ct2 : Value}
    {f3 : Addr} {od3 an3 : Option Addr} {sl3 : Array (Option Value)} {oc3 kV3 dc3 pm3 cd3 ct3 : Value}
    {f4 : Addr} {od4 an4 : Option Addr} {sl4 : Array (Option Value)} {oc4 kV4 dc4 pm4 cd4 ct4 : Value}
    {f5 : Addr} {od5 an5 : Option Addr} {sl5 : Array (Option Value)} {oc5 kV5 dc5 pm5 cd5 ct5 : Value}
    {f6 : Addr} {od6 an6 : Option Addr} {sl6 : Array (Option Value)} {oc6 kV6 dc6 pm6 cd6 ct6 : Value}
    {f7 : Addr} {od7 an7 : Option Addr} {sl7 : Array (Option Value)} {oc7 kV7 dc7 pm7 cd7 ct7 : Value}
    {f8 : Addr} {od8 an8 : Option Addr} {sl8 : Array (Option Value)} {oc8 kV8 dc8 pm8 cd8 ct8 : Value}
    {f9 : Addr} {od9 an9 : Option Addr} {sl9 : Array (Option Value)} {oc9 kV9 dc9 pm9 cd9 ct9 : Value}
    {f10 : Addr} {od10 an10 : Option Addr} {sl10 : Array (Option Value)} {oc10 kV10 dc10 pm10 cd10 ct10 : Value}
    {f11 : Addr} {od11 an11 : Option Addr} {sl11 : Array (Option Value)} {oc11 kV11 dc11 pm11 cd11 ct11 : Value}
    {f12 : Addr} {od12 an12 : Option Addr} {sl12 : Array (Option Value)} {oc12 kV12 dc12 pm12 cd12 ct12 : Value}
    {f13 : Addr} {od13 an13 : Option Addr} {sl13 : Array (Option Value)} {oc13 kV13 dc13 pm13 cd13 ct13 : Value}
    {f14 : Addr} {od14 an14 : Option Addr} {sl14 : Array (Option Value)} {oc14 kV14 dc14 pm14 cd14 ct14 : Value}
    {f20 : Addr} {od20 an20 : Option Addr} {sl20 : Array (Option Value)} {oc20 kV20 dc20 pm20 cd20 ct20 : Value} {T20 : Addr}
    {f21 : Addr} {od21 an21 : Option Addr} {sl21 : Array (Option Value)} {oc21 kV21 dc21 pm21 cd21 ct21 : Value} {p21 : Addr} {r21 : List Value}
    {f22 : Addr} {od22 an22 : Option Addr} {sl22 : Array (Option Value)} {oc22 kV22 dc22 pm22 cd22 ct22 : Value} {p22 : Addr} {r22 : List Value}
    {f23 : Addr} {od23 an23 : Option Addr} {sl23 : Array (Option Value)} {oc23 kV23 dc23 pm23 cd23 ct23 : Value} {p23 : Addr} {r23 : List Value}
    {f24 : Addr} {od24 an24 : Option Addr} {sl24 : Array (Option Value)} {oc24 kV24 dc24 pm24 cd24 ct24 : Value} {p24 : Addr} {r24 : List Value}
    {f25 : Addr} {od25 an25 : Option Addr} {sl25 : Array (Option Value)} {oc25 kV25 dc25 pm25 cd25 ct25 : Value} {p25 : Addr} {r25 : List Value}
    {f26 : Addr} {od26 an26 : Option Addr} {sl26 : Array (Option Value)} {oc26 kV26 dc26 pm26 cd26 ct26 : Value} {p26 : Addr} {r26 : List Value} {T26 : Addr}
    (a0 : PySem.W.nsIn K mainGlobals "is_integer" = some (some (.ref f0)))
    (l0 : K.lookup f0 = some ⟨oc0, od0, .func (PySem.W.fnOf "is_integer" "is_integer" (defArgs s_isint) (defBody s_isint) (defScope s_isint) .none kV0 dc0 pm0 an0 cd0 ct0), sl0⟩)
    (c0 : PySem.W.codeIn K cd0 "is_integer" = true) (k0 : PySem.W.keepIn K (.ref f0) = true)
    (a1 : PySem.W.nsIn K mainGlobals "are_gains" = some (some (.ref f1)))
    (l1 : K.lookup f1 = some ⟨oc1, od1, .func (PySem.W.fnOf "are_gains" "are_gains" (defArgs s_aregains) (defBody s_aregains) (defScope s_aregains) .none kV1 dc1 pm1 an1 cd1 ct1), sl1⟩)
    (c1 : PySem.W.codeIn K cd1 "are_gains" = true) (k1 : PySem.W.keepIn K (.ref f1) = true)
    (a2 : PySem.W.nsIn K mainGlobals "are_told" = some (some (.ref f2)))
    (l2 : K.lookup f2 = some ⟨oc2, od2, .func (PySem.W.fnOf "are_told" "are_told" (defArgs s_aretold) (defBody s_aretold) (defScope s_aretold) .none kV2 dc2 pm2 an2 cd2 ct2), sl2⟩)
    (c2 : PySem.W.codeIn K cd2 "are_told" = true) (k2 : PySem.W.keepIn K (.ref f2) = true)
    (a3 : PySem.W.nsIn K mainGlobals "begin_back" = some (some (.ref f3)))
    (l3 : K.lookup f3 = some ⟨oc3, od3, .func (PySem.W.fnOf "begin_back" "begin_back" (defArgs s_beginback) (defBody s_beginback) (defScope s_beginback) .none kV3 dc3 pm3 an3 cd3 ct3), sl3⟩)
    (c3 : PySem.W.codeIn K cd3 "begin_back" = true) (k3 : PySem.W.keepIn K (.ref f3) = true)
    (a4 : PySem.W.nsIn K mainGlobals "is_period" = some (some (.ref f4)))
    (l4 : K.lookup f4 = some ⟨oc4, od4, .func (PySem.W.fnOf "is_period" "is_period" (defArgs s_isperiod) (defBody s_isperiod) (defScope s_isperiod) .none kV4 dc4 pm4 an4 cd4 ct4), sl4⟩)
    (c4 : PySem.W.codeIn K cd4 "is_period" = true) (k4 : PySem.W.keepIn K (.ref f4) = true)
    (a5 : PySem.W.nsIn K mainGlobals "least_period" = some (some (.ref f5)))
    (l5 : K.lookup f5 = some ⟨oc5, od5, .func (PySem.W.fnOf "least_period" "least_period" (defArgs s_leastperiod) (defBody s_leastperiod) (defScope s_leastperiod) .none kV5 dc5 pm5 an5 cd5 ct5), sl5⟩)
    (c5 : PySem.W.codeIn K cd5 "least_period" = true) (k5 : PySem.W.keepIn K (.ref f5) = true)
    (a6 : PySem.W.nsIn K mainGlobals "settled" = some (some (.ref f6)))
    (l6 : K.lookup f6 = some ⟨oc6, od6, .func (PySem.W.fnOf "settled" "settled" (defArgs s_settled) (defBody s_settled) (defScope s_settled) .none kV6 dc6 pm6 an6 cd6 ct6), sl6⟩)
    (c6 : PySem.W.codeIn K cd6 "settled" = true) (k6 : PySem.W.keepIn K (.ref f6) = true)
    (a7 : PySem.W.nsIn K mainGlobals "lasting_gains" = some (some (.ref f7)))
    (l7 : K.lookup f7 = some ⟨oc7, od7, .func (PySem.W.fnOf "lasting_gains" "lasting_gains" (defArgs s_lasting) (defBody s_lasting) (defScope s_lasting) .none kV7 dc7 pm7 an7 cd7 ct7), sl7⟩)
    (c7 : PySem.W.codeIn K cd7 "lasting_gains" = true) (k7 : PySem.W.keepIn K (.ref f7) = true)
    (a8 : PySem.W.nsIn K mainGlobals "_law_pen" = some (some (.ref f8)))
    (l8 : K.lookup f8 = some ⟨oc8, od8, .func (PySem.W.fnOf "_law_pen" "_law_pen" (defArgs s_lpen) (defBody s_lpen) (defScope s_lpen) .none kV8 dc8 pm8 an8 cd8 ct8), sl8⟩)
    (c8 : PySem.W.codeIn K cd8 "_law_pen" = true) (k8 : PySem.W.keepIn K (.ref f8) = true)
    (a9 : PySem.W.nsIn K mainGlobals "_law_draw" = some (some (.ref f9)))
    (l9 : K.lookup f9 = some ⟨oc9, od9, .func (PySem.W.fnOf "_law_draw" "_law_draw" (defArgs s_ldraw) (defBody s_ldraw) (defScope s_ldraw) .none kV9 dc9 pm9 an9 cd9 ct9), sl9⟩)
    (c9 : PySem.W.codeIn K cd9 "_law_draw" = true) (k9 : PySem.W.keepIn K (.ref f9) = true)
    (a10 : PySem.W.nsIn K mainGlobals "_law_pick" = some (some (.ref f10)))
    (l10 : K.lookup f10 = some ⟨oc10, od10, .func (PySem.W.fnOf "_law_pick" "_law_pick" (defArgs s_lpick) (defBody s_lpick) (defScope s_lpick) .none kV10 dc10 pm10 an10 cd10 ct10), sl10⟩)
    (c10 : PySem.W.codeIn K cd10 "_law_pick" = true) (k10 : PySem.W.keepIn K (.ref f10) = true)
    (a11 : PySem.W.nsIn K mainGlobals "_law_told" = some (some (.ref f11)))
    (l11 : K.lookup f11 = some ⟨oc11, od11, .func (PySem.W.fnOf "_law_told" "_law_told" (defArgs s_ltold) (defBody s_ltold) (defScope s_ltold) .none kV11 dc11 pm11 an11 cd11 ct11), sl11⟩)
    (c11 : PySem.W.codeIn K cd11 "_law_told" = true) (k11 : PySem.W.keepIn K (.ref f11) = true)
    (a12 : PySem.W.nsIn K mainGlobals "_law_lasting" = some (some (.ref f12)))
    (l12 : K.lookup f12 = some ⟨oc12, od12, .func (PySem.W.fnOf "_law_lasting" "_law_lasting" (defArgs s_llasting) (defBody s_llasting) (defScope s_llasting) .none kV12 dc12 pm12 an12 cd12 ct12), sl12⟩)
    (c12 : PySem.W.codeIn K cd12 "_law_lasting" = true) (k12 : PySem.W.keepIn K (.ref f12) = true)
    (a13 : PySem.W.nsIn K mainGlobals "_law_right" = some (some (.ref f13)))
    (l13 : K.lookup f13 = some ⟨oc13, od13, .func (PySem.W.fnOf "_law_right" "_law_right" (defArgs s_lright) (defBody s_lright) (defScope s_lright) .none kV13 dc13 pm13 an13 cd13 ct13), sl13⟩)
    (c13 : PySem.W.codeIn K cd13 "_law_right" = true) (k13 : PySem.W.keepIn K (.ref f13) = true)
    (a14 : PySem.W.nsIn K mainGlobals "law" = some (some (.ref f14)))
    (l14 : K.lookup f14 = some ⟨oc14, od14, .func (PySem.W.fnOf "law" "law" (defArgs s_law) (defBody s_law) (defScope s_law) .none kV14 dc14 pm14 an14 cd14 ct14), sl14⟩)
    (c14 : PySem.W.codeIn K cd14 "law" = true) (k14 : PySem.W.keepIn K (.ref f14) = true)
    (A : PySem.W.nsIn K mainGlobals "Growth" = some (some (.ref C)))
    (I20 : PySem.W.findIn K (.ref C) "__init__" = some (some (.ref f20)))
    (J20 : PySem.W.isFn K (.ref f20) = true)
    (l20 : K.lookup f20 = some ⟨oc20, od20, .func (PySem.W.fnOf "__init__" "Growth.__init__" (defArgs s_init) (defBody s_init) (defScope s_init) (.ref T20) kV20 dc20 pm20 an20 cd20 ct20), sl20⟩)
    (c20 : PySem.W.codeIn K cd20 "Growth.__init__" = true) (k20 : PySem.W.keepIn K (.ref f20) = true)
    (D20 : dflT K T20 = true)
    (P21 : PySem.W.findIn K (.ref C) "greatest" = some (some (.ref p21)))
    (R21 : PySem.W.recIn K p21 "property" = some (.ref f21 :: r21))
    (S21 : PySem.W.specialIn K (.ref p21) "__get__" = some (some (.builtin "property.__get__"))) (W21 : PySem.W.takesIn K (.ref p21) = some true)
    (l21 : K.lookup f21 = some ⟨oc21, od21, .func (PySem.W.fnOf "greatest" "Growth.greatest" (defArgs s_greatest) (defBody s_greatest) (defScope s_greatest) .none kV21 dc21 pm21 an21 cd21 ct21), sl21⟩)
    (c21 : PySem.W.codeIn K cd21 "Growth.greatest" = true) (k21 : PySem.W.keepIn K (.ref f21) = true)
    (P22 : PySem.W.findIn K (.ref C) "is_endless" = some (some (.ref p22)))
    (R22 : PySem.W.recIn K p22 "property" = some (.ref f22 :: r22))
    (S22 : PySem.W.specialIn K (.ref p22) "__get__" = some (some (.builtin "property.__get__"))) (W22 : PySem.W.takesIn K (.ref p22) = some true)
    (l22 : K.lookup f22 = some ⟨oc22, od22, .func (PySem.W.fnOf "is_endless" "Growth.is_endless" (defArgs s_endless) (defBody s_endless) (defScope s_endless) .none kV22 dc22 pm22 an22 cd22 ct22), sl22⟩)
    (c22 : PySem.W.codeIn K cd22 "Growth.is_endless" = true) (k22 : PySem.W.keepIn K (.ref f22) = true)
    (P23 : PySem.W.findIn K (.ref C) "slope" = some (some (.ref p23)))
    (R23 : PySem.W.recIn K p23 "property" = some (.ref f23 :: r23))
    (S23 : PySem.W.specialIn K (.ref p23) "__get__" = some (some (.builtin "property.__get__"))) (W23 : PySem.W.takesIn K (.ref p23) = some true)
    (l23 : K.lookup f23 = some ⟨oc23, od23, .func (PySem.W.fnOf "slope" "Growth.slope" (defArgs s_slope) (defBody s_slope) (defScope s_slope) .none kV23 dc23 pm23 an23 cd23 ct23), sl23⟩)
    (c23 : PySem.W.codeIn K cd23 "Growth.slope" = true) (k23 : PySem.W.keepIn K (.ref f23) = true)
    (P24 : PySem.W.findCls K (.ref C) (.type "type") "constant" = some (.get (.builtin "staticmethod.__get__") (.ref p24) .none (.ref C)))
    (R24 : PySem.W.recIn K p24 "staticmethod" = some (.ref f24 :: r24))
    (l24 : K.lookup f24 = some ⟨oc24, od24, .func (PySem.W.fnOf "constant" "Growth.constant" (defArgs s_constant) (defBody s_constant) (defScope s_constant) .none kV24 dc24 pm24 an24 cd24 ct24), sl24⟩)
    (c24 : PySem.W.codeIn K cd24 "Growth.constant" = true) (k24 : PySem.W.keepIn K (.ref f24) = true)
    (P25 : PySem.W.findCls K (.ref C) (.type "type") "none" = some (.get (.builtin "staticmethod.__get__") (.ref p25) .none (.ref C)))
    (R25 : PySem.W.recIn K p25 "staticmethod" = some (.ref f25 :: r25))
    (l25 : K.lookup f25 = some ⟨oc25, od25, .func (PySem.W.fnOf "none" "Growth.none" (defArgs s_gnone) (defBody s_gnone) (defScope s_gnone) .none kV25 dc25 pm25 an25 cd25 ct25), sl25⟩)
    (c25 : PySem.W.codeIn K cd25 "Growth.none" = true) (k25 : PySem.W.keepIn K (.ref f25) = true)
    (P26 : PySem.W.findCls K (.ref C) (.type "type") "ramp" = some (.get (.builtin "staticmethod.__get__") (.ref p26) .none (.ref C)))
    (R26 : PySem.W.recIn K p26 "staticmethod" = some (.ref f26 :: r26))
    (l26 : K.lookup f26 = some ⟨oc26, od26, .func (PySem.W.fnOf "ramp" "Growth.ramp" (defArgs s_ramp) (defBody s_ramp) (defScope s_ramp) (.ref T26) kV26 dc26 pm26 an26 cd26 ct26), sl26⟩)
    (c26 : PySem.W.codeIn K cd26 "Growth.ramp" = true) (k26 : PySem.W.keepIn K (.ref f26) = true)
    (D26 : dflI K T26 = true)
    : ∃ fd : FuncData, (∀ (s : Shared) (u : Value), BindsTo s fd ⟨[u], []⟩ [("_law_script", u)]) ∧ ∀ base : Heap, K.In base → base.Ns mainGlobals mg →
      FnG P w K mg base CX0 7 fa fd ["_law_script"] (spLaw K) := by
  have d0 : OwnD K mg "is_integer" s_isint ["value"] := own_mk X G a0 l0 c0 k0 (fun _ _ _ _ _ _ us hl => match us, hl with | [_], _ => rfl)
  have d1 : OwnD K mg "are_gains" s_aregains ["gains"] := own_mk X G a1 l1 c1 k1 (fun _ _ _ _ _ _ us hl => match us, hl with | [_], _ => rfl)
  have d2 : OwnD K mg "are_told" s_aretold ["told", "least"] := own_mk X G a2 l2 c2 k2 (fun _ _ _ _ _ _ us hl => match us, hl with | [_, _], _ => rfl)
  have d3 : OwnD K mg "begin_back" s_beginback ["told", "begin", "gains"] := own_mk X G a3 l3 c3 k3 (fun _ _ _ _ _ _ us hl => match us, hl with | [_, _, _], _ => rfl)
  have d4 : OwnD K mg "is_period" s_isperiod ["tail", "climbs", "period"] := own_mk X G a4 l4 c4 k4 (fun _ _ _ _ _ _ us hl => match us, hl with | [_, _, _], _ => rfl)
  have d5 : OwnD K mg "least_period" s_leastperiod ["tail", "climbs"] := own_mk X G a5 l5 c5 k5 (fun _ _ _ _ _ _ us hl => match us, hl with | [_, _], _ => rfl)
  have d6 : OwnD K mg "settled" s_settled ["told", "gains"] := own_mk X G a6 l6 c6 k6 (fun _ _ _ _ _ _ us hl => match us, hl with | [_, _], _ => rfl)
  have d7 : OwnD K mg "lasting_gains" s_lasting ["told", "gains"] := own_mk X G a7 l7 c7 k7 (fun _ _ _ _ _ _ us hl => match us, hl with | [_, _], _ => rfl)
  have d8 : OwnD K mg "_law_pen" s_lpen ["_law_script"] := own_mk X G a8 l8 c8 k8 (fun _ _ _ _ _ _ us hl => match us, hl with | [_], _ => rfl)
  have d9 : OwnD K mg "_law_draw" s_ldraw ["_law_pen_here", "_law_many"] := own_mk X G a9 l9 c9 k9 (fun _ _ _ _ _ _ us hl => match us, hl with | [_, _], _ => rfl)
  have d10 : OwnD K mg "_law_pick" s_lpick ["_law_pen_here", "_law_some_here"] := own_mk X G a10 l10 c10 k10 (fun _ _ _ _ _ _ us hl => match us, hl with | [_, _], _ => rfl)
  have d11 : OwnD K mg "_law_told" s_ltold ["_law_pen_here"] := own_mk X G a11 l11 c11 k11 (fun _ _ _ _ _ _ us hl => match us, hl with | [_], _ => rfl)
  have d12 : OwnD K mg "_law_lasting" s_llasting ["_law_pair"] := own_mk X G a12 l12 c12 k12 (fun _ _ _ _ _ _ us hl => match us, hl with | [_], _ => rfl)
  have d13 : OwnD K mg "_law_right" s_lright ["_law_pair"] := own_mk X G a13 l13 c13 k13 (fun _ _ _ _ _ _ us hl => match us, hl with | [_], _ => rfl)
  have d14 : OwnD K mg "law" s_law ["_law_script"] := own_mk X G a14 l14 c14 k14 (fun _ _ _ _ _ _ us hl => match us, hl with | [_], _ => rfl)
  unfold chk at c
  simp only [Bool.and_eq_true, List.all_eq_true, decide_eq_true_eq] at c
  obtain ⟨c1, c2, c3, c4, c5⟩ := c
  have T : Txt K mg := ⟨fun x hx => PySem.W.mg_none_of X G (c1 x hx), int_of X G c2, int_of X G c3, d0, d1, d2, d3, d4, d5, d6, d7, d8, d9, d10, d11, d12, d13, d14⟩
  have mC := PySem.W.mg_of X G A
  have eC : gC mg = C := adr_of mC
  rw [A] at c5
  replace c5 : clsB K C = true := c5
  unfold clsB at c5
  simp only [Bool.and_eq_true, decide_eq_true_eq] at c5
  obtain ⟨h1, h2, h3, h4, h5, h6, h7, h8, h9, h10⟩ := c5
  obtain ⟨dd, hd1, hd2⟩ := dflT_of D20
  have MI := md1 (x := "__init__") (q := "Growth.__init__") (st := s_init) l20 c20 k20 hd1
  have MR := md1 (x := "ramp") (q := "Growth.ramp") (st := s_ramp) l26 c26 k26 (dflI_of D26)
  have b3 : ∀ {fd : FuncData} {ps : List Str}, (∃ ds, Vals (List.drop 1 [V.ref dd]) ds ∧ Binds K fd ps ds) → Binds K fd ps [] := by
    rintro fd ps ⟨ds, hd, hb⟩
    cases hd
    exact hb
  have b4 : ∀ {fd : FuncData} {ps : List Str}, (∃ ds, Vals (List.drop 1 [V.int 0]) ds ∧ Binds K fd ps ds) → Binds K fd ps [] := by
    rintro fd ps ⟨ds, hd, hb⟩
    cases hd
    exact hb
  have TG : TxG K mg := by
    refine ⟨T, by rw [eC]; exact mC, PySem.W.mg_of X G c4, by rw [eC]; exact ⟨h1, h2, h3, h4⟩, by rw [eC]; exact h5, by rw [eC]; exact h6, ?_, ?_, ?_, ?_, ?_, ?_, ?_⟩
    all_goals rw [eC]
    · refine ⟨f20, _, dd, ⟨h7, I20, J20, h8⟩, MI, ?_, ?_, hd2⟩
      · exact b3 (MI.binds1 (ps := ["self", "told", "gains"]) 3 1 (by simp) rfl fun _ _ _ _ _ _ _ us its h1 h2 => match us, its, h1, h2 with | [_, _, _], [_], _, _ => ⟨_, rfl, rfl⟩)
      · exact MI.binds1 (ps := ["self", "told", "gains"]) 2 0 (by simp) rfl fun _ _ _ _ _ _ _ us its h1 h2 => match us, its, h1, h2 with | [_, _], [_], _, _ => ⟨_, rfl, rfl⟩
    · exact ⟨p21, f21, _, prop_mk P21 R21 S21 W21, md0 (x := "greatest") (q := "Growth.greatest") (st := s_greatest) l21 c21 k21,
        (md0 (x := "greatest") (q := "Growth.greatest") (st := s_greatest) l21 c21 k21).bindsN fun _ _ _ _ _ _ us hl => match us, hl with | [_], _ => rfl⟩
    · exact ⟨p22, f22, _, prop_mk P22 R22 S22 W22, md0 (x := "is_endless") (q := "Growth.is_endless") (st := s_endless) l22 c22 k22,
        (md0 (x := "is_endless") (q := "Growth.is_endless") (st := s_endless) l22 c22 k22).bindsN fun _ _ _ _ _ _ us hl => match us, hl with | [_], _ => rfl⟩
    · exact ⟨p23, f23, _, prop_mk P23 R23 S23 W23, md0 (x := "slope") (q := "Growth.slope") (st := s_slope) l23 c23 k23,
        (md0 (x := "slope") (q := "Growth.slope") (st := s_slope) l23 c23 k23).bindsN fun _ _ _ _ _ _ us hl => match us, hl with | [_], _ => rfl⟩
    · exact ⟨f24, _, sm_mk h9 P24 R24 h10 k24, md0 (x := "constant") (q := "Growth.constant") (st := s_constant) l24 c24 k24,
        (md0 (x := "constant") (q := "Growth.constant") (st := s_constant) l24 c24 k24).bindsN fun _ _ _ _ _ _ us hl => match us, hl with | [_], _ => rfl⟩
    · refine ⟨f26, _, sm_mk h9 P26 R26 h10 k26, MR, ?_, ?_⟩
      · exact b4 (MR.binds1 (ps := ["gain", "begin"]) 2 1 (by simp) rfl fun _ _ _ _ _ _ _ us its h1 h2 => match us, its, h1, h2 with | [_, _], [_], _, _ => ⟨_, rfl, rfl⟩)
      · exact MR.binds1 (ps := ["gain", "begin"]) 1 0 (by simp) rfl fun _ _ _ _ _ _ _ us its h1 h2 => match us, its, h1, h2 with | [_], [_], _, _ => ⟨_, rfl, rfl⟩
    · exact ⟨f25, _, sm_mk h9 P25 R25 h10 k25, md0 (x := "none") (q := "Growth.none") (st := s_gnone) l25 c25 k25,
        (md0 (x := "none") (q := "Growth.none") (st := s_gnone) l25 c25 k25).bindsN fun _ _ _ _ _ _ us hl => match us, hl with | [], _ => rfl⟩
  have F := fun_mk (st := s_law) l14 c14 k14
  obtain rfl : f14 = fa := Value.ref.inj (Option.some.inj ((PySem.W.mg_of X G a14).symm.trans hmg))
  exact ⟨_, fun s v => .of_eq rfl, fun base _ _ => law_g TG F⟩
end KG
open PySem PySem.W PyProof.Rows L2 in
set_option maxRecDepth 100000 in
set_option maxHeartbeats 0 in
theorem PySem.Challenge.cw_headgap_k11_greatest_and_slope_holds : PySem.Challenge.rw_headgap_k11_greatest_and_slope.Holds := by
  w_on; o_law; k_head; (case hw => w_witness2)
  k_fill
  refine L2.walk_ofG (n := 63) (k := 7) (x := "_law_script") (sp := KG.spLaw)
    (l := PySem.Challenge.rw_headgap_k11_greatest_and_slope) rfl (by decide) rfl ⟨rfl, by decide, by decide⟩ (fun w h Y => PySem.W.kIn_of Y) ?F ?S
  case F =>
    intro w mg fa h KX G hmg
    refine' KG.fin_mk KX G hmg ?c ?a0 ?l0 ?c0 ?k0 ?a1 ?l1 ?c1 ?k1 ?a2 ?l2 ?c2 ?k2 ?a3 ?l3 ?c3 ?k3 ?a4 ?l4 ?c4 ?k4 ?a5 ?l5 ?c5 ?k5 ?a6 ?l6 ?c6 ?k6 ?a7 ?l7 ?c7 ?k7 ?a8 ?l8 ?c8 ?k8 ?a9 ?l9 ?c9 ?k9 ?a10 ?l10 ?c10 ?k10 ?a11 ?l11 ?c11 ?k11 ?a12 ?l12 ?c12 ?k12 ?a13 ?l13 ?c13 ?k13 ?a14 ?l14 ?c14 ?k14 ?A ?I20 ?J20 ?l20 ?c20 ?k20 ?D20 ?P21 ?R21 ?S21 ?W21 ?l21 ?c21 ?k21 ?P22 ?R22 ?S22 ?W22 ?l22 ?c22 ?k22 ?P23 ?R23 ?S23 ?W23 ?l23 ?c23 ?k23 ?P24 ?R24 ?l24 ?c24 ?k24 ?P25 ?R25 ?l25 ?c25 ?k25 ?P26 ?R26 ?l26 ?c26 ?k26 ?D26
    (case c => kernel_rfl)
    (case a0 => k_is)
    (case l0 => k_is)
    (case c0 => k_is)
    (case k0 => k_is)
    (case a1 => k_is)
    (case l1 => k_is)
    (case c1 => k_is)
    (case k1 => k_is)
    (case a2 => k_is)
    (case l2 => k_is)
    (case c2 => k_is)
    (case k2 => k_is)
    (case a3 => k_is)
    (case l3 => k_is)
    (case c3 => k_is)
    (case k3 => k_is)
    (case a4 => k_is)
    (case l4 => k_is)
    (case c4 => k_is)
    (case k4 => k_is)
    (case a5 => k_is)
    (case l5 => k_is)
    (case c5 => k_is)
    (case k5 => k_is)
    (case a6 => k_is)
    (case l6 => k_is)
    (case c6 => k_is)
    (case k6 => k_is)
    (case a7 => k_is)
    (case l7 => k_is)
    (case c7 => k_is)
    (case k7 => k_is)
    (case a8 => k_is)
    (case l8 => k_is)
    (case c8 => k_is)
    (case k8 => k_is)
    (case a9 => k_is)
    (case l9 => k_is)
    (case c9 => k_is)
    (case k9 => k_is)
    (case a10 => k_is)
    (case l10 => k_is)
    (case c10 => k_is)
    (case k10 => k_is)
    (case a11 => k_is)
    (case l11 => k_is)
    (case c11 => k_is)
    (case k11 => k_is)
    (case a12 => k_is)
    (case l12 => k_is)
    (case c12 => k_is)
    (case k12 => k_is)
    (case a13 => k_is)
    (case l13 => k_is)
    (case c13 => k_is)
    (case k13 => k_is)
    (case a14 => k_is)
    (case l14 => k_is)
    (case c14 => k_is)
    (case k14 => k_is)
    (case A => k_is)
    (case I20 => k_is)
    (case J20 => k_is)
    (case l20 => k_is)
    (case c20 => k_is)
    (case k20 => k_is)
    (case D20 => kernel_rfl)
    (case P21 => k_is)
    (case R21 => k_is)
    (case S21 => k_is)
    (case W21 => k_is)
    (case l21 => k_is)
    (case c21 => k_is)
    (case k21 => k_is)
    (case P22 => k_is)
    (case R22 => k_is)
    (case S22 => k_is)
    (case W22 => k_is)
    (case l22 => k_is)
    (case c22 => k_is)
    (case k22 => k_is)
    (case P23 => k_is)
    (case R23 => k_is)
    (case S23 => k_is)
    (case W23 => k_is)
    (case l23 => k_is)
    (case c23 => k_is)
    (case k23 => k_is)
    (case P24 => k_is)
    (case R24 => k_is)
    (case l24 => k_is)
    (case c24 => k_is)
    (case k24 => k_is)
    (case P25 => k_is)
    (case R25 => k_is)
    (case l25 => k_is)
    (case c25 => k_is)
    (case k25 => k_is)
    (case P26 => k_is)
    (case R26 => k_is)
    (case l26 => k_is)
    (case c26 => k_is)
    (case k26 => k_is)
    (case D26 => kernel_rfl)
  case S => exact fun K H a ns hl _ hS => ⟨a, ns, rfl, hS, hl, fun _ => rfl⟩
#print axioms PySem.Challenge.cw_headgap_k11_greatest_and_slope_holds
