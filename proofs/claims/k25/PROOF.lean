import PyProof.Rows.All
import HandS.ForMost
import HandS.IsInst
import HandS.Wide
import KE.KDictKeyed
import KE.KDictWalk
import HandS.DictComp
import HandS.TupAny
import HandS.Flow
import HandS.Style
import HandS.Zip
import HandS.Strs
import HandS.SetFor
import HandS.Text
import PyProof.P3In
import KE.DatumOrd
import KE.SortData
import PyProof.Rows.SortWalk
import HandS.TupSets
import KE.KeyNested
import PyProof.Rows.SetFrom
import PyProof.WalksMore
import PyProof.ReprLen
import PyProof.Rows.RegStrFacts
import HandS.Comp
import KE.KDictSum
import KE.KDictPairs
import KE.GoesMore
import PyProof.WalkInts
import HandS.Small
import KE.GoesZip
import HandS.TupMul
import PySem.Challenge.RW_nevergoback_k25_visits_and_journeys_judg
set_option Elab.async false
set_option linter.all false
set_option maxRecDepth 100000
set_option maxHeartbeats 4000000
/-! promises of defs where the stack's guards are known to be none (repr asks for that) -/
namespace DL
open PySem PySem.Spec PyProof.Rows L2

structure FnG (P : Program) (w : World) (K : PySem.W.Frag)
    (mg : Str → Option Value) (base : Heap) (CX : CXT) (k : Nat)
    (f : Addr) (fd : FuncData) (ps : List Str) (sp : Sp) : Prop where
  len : ∀ vs H Q E, sp vs H Q E → vs.length = ps.length
  run : ∀ (A : Around) (outer : List Env) (s : Shared) (H : Hp) (args : Args)
    (us : List Value) (vs : List V) (Q : VK) (E : XK), Room k A → A.guards = some [] →
    Env0 P w K mg base A outer s H → BindsTo s fd args (ps.zip us) → Vals vs us →
    sp vs H Q E → codeAny (model P w) A (.call (.ref f) args) (CR CX outer P w H s Q E) s

section
variable {P : Program} {w : World} {K : PySem.W.Frag} {mg : Str → Option Value} {base : Heap}
variable {CX : CXT} {j k : Nat} {f : Addr} {fd : FuncData} {ps : List Str} {sp sp' : Sp}

theorem FnG.of (F : FnOk P w K mg base CX k f fd ps sp) : FnG P w K mg base CX k f fd ps sp :=
  ⟨F.len, fun A o s H a us vs Q E hr _ => F.run A o s H a us vs Q E hr⟩
theorem FnG.mono (F : FnG P w K mg base CX j f fd ps sp) (h : j ≤ k) :
    FnG P w K mg base CX k f fd ps sp :=
  ⟨F.len, fun A o s H a us vs Q E hr => F.run A o s H a us vs Q E (hr.mono h)⟩
theorem FnG.imp (F : FnG P w K mg base CX k f fd ps sp)
    (h : ∀ vs H Q E, sp' vs H Q E → sp vs H Q E) : FnG P w K mg base CX k f fd ps sp' :=
  ⟨fun vs H Q E q => F.len vs H Q E (h _ _ _ _ q),
   fun A o s H a us vs Q E hr hg he hb hv hs => F.run A o s H a us vs Q E hr hg he hb hv (h _ _ _ _ hs)⟩
end

section
variable {X : Cx} {CX : CXT} {k : Nat} {f : Addr} {fd : FuncData} {ps : List Str} {sp : Sp}
variable {dvs : List V} {ds : List Value} {E : XK} {x : Str} {p pos : Pos} {e : Expr} {es : List Expr} {t : TA}

theorem run_g {pins : List (Addr × Obj)} {σ : L2.St} {H : Hp} {s : Shared} {Q : VK} {us : List Value} {vs : List V}
    (F : FnG X.prog X.w X.K X.mg X.base CX k f fd ps sp) (hr : Room k X.A) (hg : X.A.guards = some [])
    (hb : Binds X.K fd ps ds) (hd : Vals dvs ds) (hx : Passes CX X E)
    (I : Inv X pins σ H s) (r : Vals vs us) (h : sp (vs ++ dvs) H Q E) :
    wpAny (model X.prog X.w) X.A (call (.ref f) us) (EP X pins σ Q) X.xe s := by
  have r2 : Vals (vs ++ dvs) (us ++ ds) := r.append hd
  have hl : (us ++ ds).length = ps.length := by
    rw [← r2.length]
    exact F.len _ _ _ _ h
  have go := F.run X.A X.stack s H ⟨us, []⟩ (us ++ ds) (vs ++ dvs) Q E hr hg I.env0 (hb s us I.kIn hl) r2 h
  refine wpAny_call (codeAny_mono go fun r s' hq => ?_)
  match r, hq with
  | .error e, hq => exact hx pins σ H s e s' I hq
  | .ok (.ret u), hq => exact I.after hq
  | .ok .next, hq => exact False.elim hq
  | .ok .brk, hq => exact False.elim hq
  | .ok .cont, hq => exact False.elim hq

theorem pe_callG (F : FnG X.prog X.w X.K X.mg X.base CX k f fd ps sp) (hr : Room k X.A) (gd : X.A.guards = some [])
    (hg : Gl X x) (hm : X.mg x = some (.ref f)) (hk : PySem.W.keepIn X.K (.ref f) = true)
    (hb : Binds X.K fd ps ds) (hd : Vals dvs ds) (hx : Passes CX X E) (ha : PA X (e :: es) t)
    (hdb : (x == ("__debug__" : Str)) = false := by decide)
    (he : starEach (e :: es) X.env = (false, eval e X.env) :: starEach es X.env := by rfl)
    (hpl : (backTo pos (starEach es X.env)).any (·.1) = false := by rfl) :
    PE X (.Call (.Name x p) (e :: es) [] pos) (tCall sp dvs E t) := by
  constructor
  intro pins s σ H Q I h
  apply wpAny_Call_Name_kw
  apply ld_glob I hg hm _ hdb
  refine PySem.W.callWith_K (h₀ := X.base) I.ok.mod.kin hk ?_ he hpl
  refine thn (ha.run pos pins s σ H _ I h) ?_
  rintro us s1 ⟨vs, H1, I1, r, q⟩
  exact ⟨I1.kIn, run_g F hr gd hb hd hx I1 r q⟩

theorem pe_call0G (F : FnG X.prog X.w X.K X.mg X.base CX k f fd ps sp) (hr : Room k X.A) (gd : X.A.guards = some [])
    (hg : Gl X x) (hm : X.mg x = some (.ref f)) (hk : PySem.W.keepIn X.K (.ref f) = true)
    (hb : Binds X.K fd ps ds) (hd : Vals dvs ds) (hx : Passes CX X E)
    (hdb : (x == ("__debug__" : Str)) = false := by decide) :
    PE X (.Call (.Name x p) [] [] pos) (tCall sp dvs E tNil) := by
  constructor
  intro pins s σ H Q I h
  apply wpAny_Call_Name_kw
  apply ld_glob I hg hm _ hdb
  exact PySem.W.callWith_K0 I.kIn hk (run_g (us := []) F hr gd hb hd hx I .nil h)
end

/-- a def of the text keeps its promise, by its body -/
theorem fnG_of {CX : CXT} {P : Program} {w : World} {K : PySem.W.Frag} {mg : Str → Option Value} {base : Heap}
    {k : Nat} {f : Addr} {fd : FuncData} {x qual : Str} {st : Stmt} {N ps : List Str} {sp : Sp}
    (F : Fun K x qual st f fd) (S : FnScope N ps (defScope st))
    (len : ∀ vs H Q E, sp vs H Q E → vs.length = ps.length)
    (hbody : ∀ (cdv : Value) (A : Around) (outer : List Env) (s : Shared) (H : Hp) (vs : List V) (Q : VK) (E : XK),
      Room k (A.deeper (envOfC qual (defScope st) s.heap.objs.size f cdv)) → A.guards = some [] → sp vs H Q E →
      ∃ t, PSs (cxOf CX P w K mg base N qual (defScope st) f cdv A outer s H E) (defBody st) t ∧
        t { nx := fun _ H' => Q .non H', rt := Q } (start N vs) H) :
    FnG P w K mg base CX (k + 1) f fd ps sp := by
  obtain ⟨oc, od, kV, doc, pm, an, cdv, ct, osl, rfl, lk, hcd⟩ := F.ex
  constructor
  · exact len
  intro A outer s H args us vs Q E hr gd e0 hb r hsp
  have hl := len _ _ _ _ hsp
  have old : ∀ b o, base.get? b = some o → s.heap.get? b = some o := fun b o e => (e0.bs b o e).1
  have KX : K.In s.heap := e0.mod.kin.keeps old
  have lim : s.heap.NoLimit := e0.mod.nolimit.keeps old
  have kinds : ∀ y ∈ ps.zip us, (defScope st).names.lookup y.1 = some .local ∨
      ((defScope st).names.lookup y.1 = some .cell ∧
        ((cellsFrom (s.heap.objs.size + 1) (defScope st).names []).lookup y.1).isSome = true) := by
    rintro ⟨n, v⟩ hy
    have hn := (List.of_mem_zip hy).1
    rcases S.par n hn with q | q
    · exact Or.inl q
    · exact Or.inr ⟨q, PySem.W.cellsFrom_some _ _ _ (Or.inl q)⟩
  refine codeAny_call_function hr.depth (KX _ _ lk) rfl S.co S.gen rfl
    (PySem.W.codeRec_of KX hcd) (hb _ _ _ _ ?_)
  refine wpAny_newFunctionEnv_cells S.kind kinds ?_
  rintro env he s1 x1
  cases he
  refine ⟨lim.keeps x1.toInCall.keep, codeAny_func ?_⟩
  obtain ⟨t, ht, hq⟩ := hbody cdv A outer s H vs Q E (hr.deeper _) gd hsp
  have I := inv_start (CX := CX) (P := P) (w := w) (mg := mg) (N := N) (qual := qual) (f := f) (cd := cdv) (E := E) S hr.hd e0 hl r x1
  have main := ht.run [] s1 (start N vs) H _ I hq
  refine wpAny_mono main ?_ fun e s' hs => hs
  intro fl s' hs
  match fl, hs with
  | .ret u, ⟨v, σ', H', J, rv, q⟩ => exact ⟨v, H', J.os, J.bare, J.base, J.hok, rv, q⟩
  | .next, ⟨σ', H', J, q⟩ => exact ⟨.non, H', J.os, J.bare, J.base, J.hok, rfl, q⟩
  | .brk, ⟨_, _, _, q⟩ => exact False.elim q
  | .cont, ⟨_, _, _, q⟩ => exact False.elim q

/-- nothing leaves the def but its value -/
theorem fnG_ok {P : Program} {w : World} {K : PySem.W.Frag} {mg : Str → Option Value} {base : Heap}
    {k : Nat} {f : Addr} {fd : FuncData} {x qual : Str} {st : Stmt} {N ps : List Str} {sp : Sp}
    (F : Fun K x qual st f fd) (S : FnScope N ps (defScope st))
    (len : ∀ vs H Q E, sp vs H Q E → vs.length = ps.length)
    (hbody : ∀ (cdv : Value) (A : Around) (outer : List Env) (s : Shared) (H : Hp) (vs : List V) (Q : VK) (E : XK),
      Room k (A.deeper (envOfC qual (defScope st) s.heap.objs.size f cdv)) → A.guards = some [] → sp vs H Q E →
      ∃ t, PSs (cxOf CX0 P w K mg base N qual (defScope st) f cdv A outer s H E).nox (defBody st) t ∧
        t { nx := fun _ H' => Q .non H', rt := Q } (start N vs) H) :
    FnG P w K mg base CX0 (k + 1) f fd ps sp :=
  fnG_of F S len fun cdv A outer s H vs Q E hr gd hsp =>
    let ⟨t, h, q⟩ := hbody cdv A outer s H vs Q E hr gd hsp
    ⟨t, h.nox, q⟩

/-- the law's call, from the promise of its def -/
theorem lawG {P : Program} {w : World} {K : PySem.W.Frag} {mg mb : Str → Option Value} {CX : CXT} {k : Nat}
    {fa a : Addr} {fd : FuncData} {x : Str} {sp : Sp} {s₁ : Shared} {vs : List Value} {ns : List Int}
    (KX : K.In s₁.heap) (hns : s₁.heap.Ns mainGlobals mg) (hb : s₁.heap.Ns builtinsNs mb)
    (hbb : ∀ x : Str, x ≠ "__name__" → mb x = bootBuiltins x) (hlim : s₁.heap.NoLimit) (hg : s₁.gens = #[])
    (ha : s₁.heap.get? a = some { cls := .type "list", data := .seq vs.toArray })
    (hi : IntsAre vs ns) (hl : ns.length ≤ sizeLine) (hr : Room k callerA)
    (hsm : ∃ mm, s₁.heap.Ns sysModules mm)
    (F : ∀ base : Heap, K.In base → base.Ns mainGlobals mg → (∃ o, base.get? sysModules = some o) → FnG P w K mg base CX k fa fd [x] sp)
    (hbind : ∀ (s : Shared) (u : Value), BindsTo s fd ⟨[u], []⟩ [(x, u)])
    (hsp : ∀ H : Hp, Only H → SqL K H a (ns.map V.int) → sp [.ref a] H (fun v _ => v = .bl true) fun _ _ _ => False)
    (hCX : ∀ H e s', CX [] H s₁ (fun _ _ _ => False) e s' → False) :
    codeAny (model P w) callerA (.call (.ref fa) ⟨[.ref a], []⟩)
      (fun r s' => r = .ok (.ret (.bool true)) ∧ OldK s₁.heap s'.heap ∧ s'.os = s₁.os ∧ AllBare s'.gens) s₁ := by
  have rv := vals_ints hi
  have core : ∀ H : Hp, Only H → SqL K H a (ns.map V.int) → HOk P w H s₁.heap → (∀ b, H b ≠ none → b = a) →
      (H a ≠ none → K.lookup a = none) →
      codeAny (model P w) callerA (.call (.ref fa) ⟨[.ref a], []⟩)
        (fun r s' => r = .ok (.ret (.bool true)) ∧ OldK s₁.heap s'.heap ∧ s'.os = s₁.os ∧ AllBare s'.gens) s₁ := by
    intro H hO hS hok hA hK
    have only : ∀ {b : Addr} {o : Obj}, s₁.heap.get? b = some o → (b = a → H b = none) → H b = none := by
      intro b o _ hn
      by_cases z : H b = none
      · exact z
      · exact hn (hA b z)
    have nodict : ∀ {b : Addr} {o : Obj} {es : Array DictEntry} {ep : Nat},
        s₁.heap.get? b = some o → o.data = .dict es ep → H b = none := by
      intro b o es ep e d
      by_cases z : H b = none
      · exact z
      · exfalso
        have eb := hA b z
        rw [eb, ha] at e
        cases e
        exact Data.noConfusion d
    have ns' : ∀ {b : Addr} {m : Str → Option Value}, s₁.heap.Ns b m → (hidT s₁.heap H).Ns b m := by
      rintro b m ⟨o, es, ep, e, d, r⟩
      exact ⟨o, es, ep, hidT_get e (nodict e d), d, r⟩
    have kb : K.In (hidT s₁.heap H) := by
      intro b o e
      refine hidT_get (KX b o e) ?_
      by_cases z : H b = none
      · exact z
      · have eb := hA b z
        subst eb
        rw [hK z] at e
        cases e
    obtain ⟨mc, l1, l2⟩ := hlim
    have hM : Mod K mg (hidT s₁.heap H) := ⟨kb, ns' hns, ⟨mb, ns' hb, hbb⟩, ⟨mc, ns' l1, l2⟩⟩
    have nofr : ∀ b ∈ frs ([] : List Env), H b = none := fun b z => absurd (show b ∈ ([] : List Addr) from z) (by simp)
    have e0 : Env0 P w K mg (hidT s₁.heap H) callerA [] s₁ H :=
      ⟨rfl, hM, fun b o e => of_hidT e, Nat.le_of_eq (hidT_size _ _), trivial, nofr, hok, .of_eq hg⟩
    have go := (F _ kb (ns' hns) (let ⟨_, e⟩ := hsm; let ⟨o', _, _, e', _⟩ := ns' e; ⟨o', e'⟩)).run callerA [] s₁ H ⟨[.ref a], []⟩ [.ref a] [.ref a] _ _ hr rfl e0
      (hbind s₁ (.ref a)) (.cons rfl .nil) (hsp H hO hS)
    refine codeAny_mono go fun r s' h => ?_
    match r, h with
    | .error e, h => exact (hCX H e s' h).elim
    | .ok .next, h => exact False.elim h
    | .ok .brk, h => exact False.elim h
    | .ok .cont, h => exact False.elim h
    | .ok (.ret u), ⟨v, H', os, bare, un, hok', r', q⟩ =>
      have qv : v = .bl true := q
      subst qv
      have eu : u = Value.bool true := r'
      subst eu
      refine ⟨rfl, OldK.of_keep fun b o e => ?_, os, bare⟩
      by_cases z : H b = none
      · exact un.keep b o e z (fun y => absurd (show b ∈ ([] : List Addr) from y) (by simp)) (by simp)
      · rcases hO b with y | ⟨ob, xs, y⟩
        · exact absurd y z
        · have y2 := un.frzs b ob _ y
          have e1 := (hok b _ y).1
          have e2 := (hok' b _ y2).1
          rw [e] at e1
          cases e1
          exact e2
  cases hk : K.lookup a with
  | some o =>
    have e := KX a o hk
    rw [ha] at e
    cases e
    have lenV := hi.length
    exact core (fun _ => none) (fun _ => Or.inl rfl)
      (Or.inr ⟨_, vs.toArray, _, hk, rfl, rfl, rfl, by rw [List.size_toArray, lenV]; exact hl, by simpa using rv⟩)
      (fun b u z => nomatch (show (none : Option HO) = some u from z)) (fun b z => absurd rfl z) (fun z => absurd rfl z)
  | none =>
    let Hs : Hp := fun b => if b = a then some (.frz { cls := .type "list", data := .seq vs.toArray } (.lst (ns.map V.int))) else none
    have at_a : Hs a = some (.frz { cls := .type "list", data := .seq vs.toArray } (.lst (ns.map V.int))) := if_pos rfl
    have off : ∀ b, b ≠ a → Hs b = none := fun b h => if_neg h
    refine core Hs ?_ (Or.inl (Or.inr ⟨_, at_a⟩)) ?_ ?_ (fun _ => hk)
    · intro b
      by_cases hb : b = a
      · exact Or.inr ⟨_, _, hb ▸ at_a⟩
      · exact Or.inl (off b hb)
    · intro b u z
      by_cases hb : b = a
      · subst hb
        rw [at_a] at z
        cases z
        exact ⟨ha, by rw [List.length_map]; exact hl, vs, _, rv, ha⟩
      · rw [off b hb] at z
        cases z
    · intro b z
      by_cases hb : b = a
      · exact hb
      · exact absurd (off b hb) z

theorem walk_g {l : PySem.W.OpenLaw} {n k : Nat} {q : Program} {loose : List Str} {XP : (Str → Option Value) → Heap → Prop}
    {YP : World → Heap → Prop} {d : DefRec} {K : Params → PySem.W.Frag} {CX : World → CXT} {sp : World → Sp} {x : Str}
    (hn : l.most = some n) (hn2 : n ≤ sizeLine) (hdf : d.params.defaults = []) (hr : Room k callerA)
    (hY : ∀ (w : World) (h : Heap), YP w h → (K w.params).In h)
    (F : ∀ (w : World) (mg : Str → Option Value) (fa : Addr) (h : Heap), (K w.params).In h → h.Ns mainGlobals mg →
      mg d.name = some (.ref fa) →
      ∃ fd : FuncData, (∀ (s : Shared) (u : Value), BindsTo s fd ⟨[u], []⟩ [(x, u)]) ∧
        ∀ base : Heap, (K w.params).In base → base.Ns mainGlobals mg → (∃ o, base.get? sysModules = some o) →
          FnG l.prog w (K w.params) mg base (CX w) k fa fd [x] (sp w))
    (hsp : ∀ (w : World) (H : Hp) (a : Addr) (ns : List Int), ns.length ≤ n → Only H → SqL (K w.params) H a (ns.map V.int) →
      sp w [.ref a] H (fun v _ => v = .bl true) fun _ _ _ => False)
    (hCX : ∀ (w : World) (H : Hp) (s : Shared) (e : Value) (s' : Shared), CX w [] H s (fun _ _ _ => False) e s' → False)
    (him : PyProof.Rows.importsNone q = true) :
    PySem.W.WalkO q loose XP YP l.row.toRowW d [] (fun f vs => PySem.call f vs) := by
  apply Att.attach_call hn hdf
  intro w s₀ s₁ mg mb fa o pm cd doc a vs ns G Y ho hd hcd hmg hobj hints hlen hg
  have KX := hY w _ Y
  obtain ⟨fd, hb, hF⟩ := F w mg fa _ KX G.T.g hmg
  refine lawG KX G.T.g G.T.b G.T.builtins G.T.nolimit hg hobj hints (Nat.le_trans hlen hn2) hr (let ⟨mm, e, _⟩ := (G.T.seer him).mods; ⟨mm, e⟩) hF hb ?_ ?_
  · exact fun H hO hS => hsp w H a ns hlen hO hS
  · exact fun H e s' => hCX w H s₁ e s'
end DL
/-! values as plain data: what a tracked value holds, whatever its addresses are -/
namespace DL
open PySem PySem.Spec PyProof.Rows L2
abbrev Sl := L2.St
def keyD : Key → PyData
  | .inl i => .int i
  | .inr x => .str x

mutual
/-- v holds the datum d; no list or dict on the way is one that may still change (M) -/
inductive Dr (K : PySem.W.Frag) (M : Addr → Prop) (H : Hp) : V → PyData → Prop
  | non : Dr K M H .non .none
  | bl (b : Bool) : Dr K M H (.bl b) (.bool b)
  | int (i : Int) : Dr K M H (.int i) (.int i)
  | str (x : Str) : Dr K M H (.str x) (.str x)
  | lst {a : Addr} {xs : List V} {ds : List PyData} : ¬ M a → H a = some (.lst xs) → DrA K M H xs ds → Dr K M H (.ref a) (.list ds)
  | tup {a : Addr} {xs : List V} {ds : List PyData} : SqT K H a xs → DrA K M H xs ds → Dr K M H (.ref a) (.tuple ds)
  | dic {a : Addr} {kvs : List (Key × V)} {ds : List PyData} : ¬ M a → H a = some (.dK kvs) → DrA K M H (kvs.map (·.2)) ds →
      Dr K M H (.ref a) (.dict ((kvs.map fun p => keyD p.1).zip ds))
inductive DrA (K : PySem.W.Frag) (M : Addr → Prop) (H : Hp) : List V → List PyData → Prop
  | nil : DrA K M H [] []
  | cons {v : V} {vs : List V} {d : PyData} {ds : List PyData} : Dr K M H v d → DrA K M H vs ds → DrA K M H (v :: vs) (d :: ds)
end
/-- an object that may be changed -/
def mutO : HO → Bool
  | .tup _ => false
  | .frz _ _ => false
  | .tbl _ => false
  | .rng _ _ => false
  | .met _ _ => false
  | _ => true

/-- what stands in H, but the changing objects of M, stands in H' -/
def Stays (M : Addr → Prop) (H H' : Hp) : Prop := ∀ a o, H a = some o → (mutO o = true → ¬ M a) → H' a = some o
section
variable {K : PySem.W.Frag} {M M' : Addr → Prop} {H H' H2 : Hp}
theorem Stays.refl : Stays M H H := fun _ _ e _ => e
theorem Stays.trans (h : Stays M H H') (h' : Stays M H' H2) : Stays M H H2 := fun a o e n => h' a o (h a o e n) n
theorem Stays.of_same (h : Same H H') : Stays M H H' := fun a o e _ => h a o e
theorem Stays.weak (h : Stays M H H') (hm : ∀ a, M a → M' a) : Stays M' H H' := fun a o e n => h a o e fun z y => n z (hm _ y)
theorem SqT.stays {a : Addr} {xs : List V} (h : Stays M H H') (e : SqT K H a xs) : SqT K H' a xs := by
  rcases e with (e | ⟨o, e⟩) | e
  · exact .inl (.inl (h _ _ e (fun z => nomatch z)))
  · exact .inl (.inr ⟨o, h _ _ e (fun z => nomatch z)⟩)
  · exact .inr e
mutual
theorem Dr.map (hM : ∀ a o, H a = some o → M' a → M a) (hH : Stays M H H') : ∀ {v : V} {d : PyData}, Dr K M H v d → Dr K M' H' v d
  | _, _, .non => .non
  | _, _, .bl b => .bl b
  | _, _, .int i => .int i
  | _, _, .str x => .str x
  | _, _, .lst n e r => .lst (fun z => n (hM _ _ e z)) (hH _ _ e fun _ => n) (DrA.map hM hH r)
  | _, _, .tup e r => .tup (SqT.stays hH e) (DrA.map hM hH r)
  | _, _, .dic n e r => .dic (fun z => n (hM _ _ e z)) (hH _ _ e fun _ => n) (DrA.map hM hH r)
theorem DrA.map (hM : ∀ a o, H a = some o → M' a → M a) (hH : Stays M H H') : ∀ {vs : List V} {ds : List PyData}, DrA K M H vs ds → DrA K M' H' vs ds
  | _, _, .nil => .nil
  | _, _, .cons r t => .cons (Dr.map hM hH r) (DrA.map hM hH t)
end
theorem Dr.stays {v : V} {d : PyData} (r : Dr K M H v d) (h : Stays M H H') : Dr K M H' v d := r.map (fun _ _ _ z => z) h
theorem DrA.stays {v : List V} {d : List PyData} (r : DrA K M H v d) (h : Stays M H H') : DrA K M H' v d := r.map (fun _ _ _ z => z) h
theorem Dr.less {v : V} {d : PyData} (r : Dr K M H v d) (h : ∀ a, M' a → M a) : Dr K M' H v d := r.map (fun a _ _ z => h a z) Stays.refl
theorem DrA.less {v : List V} {d : List PyData} (r : DrA K M H v d) (h : ∀ a, M' a → M a) : DrA K M' H v d := r.map (fun a _ _ z => h a z) Stays.refl

theorem DrA.length : ∀ {vs : List V} {ds : List PyData}, DrA K M H vs ds → ds.length = vs.length
  | _, _, .nil => rfl
  | _, _, .cons _ t => by rw [List.length_cons, List.length_cons, DrA.length t]
theorem DrA.get : ∀ {vs : List V} {ds : List PyData} {i : Nat} {v : V}, DrA K M H vs ds → vs[i]? = some v → ∃ d, ds[i]? = some d ∧ Dr K M H v d
  | _, _, _, _, .nil, e => by simp at e
  | _, _, 0, _, .cons r _, e => by simp at e; subst e; exact ⟨_, rfl, r⟩
  | _, _, i + 1, _, .cons _ t, e => DrA.get (i := i) t (by simpa using e)
theorem DrA.getD : ∀ {vs : List V} {ds : List PyData} {i : Nat} {d : PyData}, DrA K M H vs ds → ds[i]? = some d → ∃ v, vs[i]? = some v ∧ Dr K M H v d
  | _, _, _, _, .nil, e => by simp at e
  | _, _, 0, _, .cons r _, e => by simp at e; subst e; exact ⟨_, rfl, r⟩
  | _, _, i + 1, _, .cons _ t, e => DrA.getD (i := i) t (by simpa using e)
theorem DrA.append : ∀ {vs ws : List V} {ds es : List PyData}, DrA K M H vs ds → DrA K M H ws es → DrA K M H (vs ++ ws) (ds ++ es)
  | _, _, _, _, .nil, s => s
  | _, _, _, _, .cons r t, s => .cons r (DrA.append t s)
theorem DrA.take : ∀ {vs : List V} {ds : List PyData} (n : Nat), DrA K M H vs ds → DrA K M H (vs.take n) (ds.take n)
  | _, _, 0, _ => .nil
  | _, _, _ + 1, .nil => .nil
  | _, _, n + 1, .cons r t => .cons r (DrA.take n t)
theorem DrA.drop : ∀ {vs : List V} {ds : List PyData} (n : Nat), DrA K M H vs ds → DrA K M H (vs.drop n) (ds.drop n)
  | _, _, 0, r => r
  | _, _, _ + 1, .nil => .nil
  | _, _, n + 1, .cons _ t => DrA.drop n t
theorem DrA.reverse : ∀ {vs : List V} {ds : List PyData}, DrA K M H vs ds → DrA K M H vs.reverse ds.reverse
  | _, _, .nil => .nil
  | _, _, .cons r t => by rw [List.reverse_cons, List.reverse_cons]; exact (DrA.reverse t).append (.cons r .nil)
theorem DrA.set {v : V} {d : PyData} (r : Dr K M H v d) : ∀ {vs : List V} {ds : List PyData} (i : Nat), DrA K M H vs ds → DrA K M H (vs.set i v) (ds.set i d)
  | _, _, _, .nil => .nil
  | _, _, 0, .cons _ t => .cons r t
  | _, _, i + 1, .cons q t => .cons q (DrA.set r i t)
theorem DrA.ints (ns : List Int) : DrA K M H (ns.map V.int) (ns.map PyData.int) := by
  induction ns with
  | nil => exact .nil
  | cons n r ih => exact .cons (.int n) ih
theorem DrA.of_ints : ∀ {ns : List Int} {vs : List V}, DrA K M H vs (ns.map PyData.int) → vs = ns.map V.int
  | [], _, h => by cases h; rfl
  | n :: r, _, h => by
    cases h with
    | cons h t =>
      cases h
      rw [DrA.of_ints t]
      rfl
end

/-! ### reading the real heap -/
section
variable {X : Cx} {pins : List (Addr × Obj)} {σ : Sl} {H : Hp} {s : Shared} {M : Addr → Prop}
theorem keys_reads {h : Heap} : ∀ {es : List DictEntry} {kvs : List (Key × Value)}, Pairs (mixKind X.prog X.w) es kvs → ReadsAll h (es.map (·.key)) (kvs.map fun p => keyD p.1) []
  | _, _, .nil => .nil
  | _, _, .cons (e := e) (kv := kv) hk _ t => by
    have r : Reads h e.key (keyD kv.1) [] := by
      rcases keyIs_shape (show keyIs kv.1 e.key = true from hk) with ⟨i, u, e1, e2⟩ | ⟨x, u, e1, e2⟩
      · rw [e1, e2]; exact .int i u
      · rw [e1, e2]; exact .str x u
    have q := ReadsAll.cons r (keys_reads t)
    simpa using q
theorem vals_of : ∀ {es : List DictEntry} {kvs : List (Key × Value)}, Pairs (mixKind X.prog X.w) es kvs → es.map (·.val) = kvs.map (·.2)
  | _, _, .nil => rfl
  | _, _, .cons _ e t => by rw [List.map_cons, List.map_cons, vals_of t, e]
theorem kv_keys : ∀ {xs : List (Key × V)} {ys : List (Key × Value)}, KV xs ys → xs.map (·.1) = ys.map (·.1)
  | _, _, .nil => rfl
  | _, _, .cons r t => by rw [List.map_cons, List.map_cons, r.1, kv_keys t]
theorem kv_vals : ∀ {xs : List (Key × V)} {ys : List (Key × Value)}, KV xs ys → Vals (xs.map (·.2)) (ys.map (·.2))
  | _, _, .nil => .nil
  | _, _, .cons r t => .cons r.2 (kv_vals t)
theorem zip_fst {α β : Type} : ∀ (xs : List α) (ys : List β), ys.length = xs.length → (xs.zip ys).map (·.1) = xs
  | [], [], _ => rfl
  | x :: xs, y :: ys, h => by
    rw [List.zip_cons_cons, List.map_cons, zip_fst xs ys (by simpa using h)]
theorem zip_snd {α β : Type} : ∀ (xs : List α) (ys : List β), ys.length = xs.length → (xs.zip ys).map (·.2) = ys
  | [], [], _ => rfl
  | x :: xs, y :: ys, h => by
    rw [List.zip_cons_cons, List.map_cons, zip_snd xs ys (by simpa using h)]
mutual
theorem Dr.reads (I : Inv X pins σ H s) : ∀ {v : V} {d : PyData} {u : Value}, Dr X.K M H v d → RelV v u →
    ∃ as, Reads s.heap u d as ∧ ∀ b ∈ as, ∃ o, H b = some o ∧ ((∃ xs, o = .lst xs) ∨ b ≠ sysModules)
  | _, _, u, .non, r => by cases r; exact ⟨_, .none, by simp⟩
  | _, _, u, .bl b, r => by cases r; exact ⟨_, .bool b, by simp⟩
  | _, _, u, .int i, r => by obtain ⟨t, rfl⟩ := r; exact ⟨_, .int i t, by simp⟩
  | _, _, u, .str x, r => by obtain ⟨t, rfl⟩ := r; exact ⟨_, .str x t, by simp⟩
  | _, _, u, .lst (xs := xs) n e ra, r => by
    cases r
    obtain ⟨z, its, k, rv, e2⟩ := I.hok _ _ e
    obtain ⟨as, h1, h2⟩ := DrA.reads I ra rv
    refine ⟨_, .list e2 rfl rfl h1, fun b hb => ?_⟩
    rcases List.mem_cons.mp hb with rfl | hb
    · exact ⟨_, e, .inl ⟨_, rfl⟩⟩
    · exact h2 b hb
  | _, _, u, .tup (xs := xs) e ra, r => by
    cases r
    obtain ⟨its, rv, ⟨o, ho, hc, k, hd⟩, _⟩ := I.tuple e
    obtain ⟨as, h1, h2⟩ := DrA.reads I ra rv
    exact ⟨_, .tuple ho hc hd h1, h2⟩
  | _, _, u, .dic (a := a) (kvs := kvs) (ds := ds) n e ra, r => by
    cases r
    obtain ⟨z, ns, vs, rk, o, es, ep, ho, hx, hd, _, hp, _⟩ := I.hok _ _ e
    have hv : Vals (kvs.map (·.2)) (vs.map (·.2)) := kv_vals rk
    obtain ⟨bs, h1, h2⟩ := DrA.reads I ra hv
    have hl : ds.length = (kvs.map fun p => keyD p.1).length := by rw [ra.length, List.length_map, List.length_map]
    have hk : ReadsAll s.heap (es.toList.map (·.key)) (((kvs.map fun p => keyD p.1).zip ds).map (·.1)) [] := by
      rw [zip_fst _ _ hl, show (kvs.map fun p => keyD p.1) = (kvs.map (·.1)).map keyD by rw [List.map_map]; rfl, kv_keys rk, List.map_map]
      exact keys_reads (X := X) hp
    have hw : ReadsAll s.heap (es.toList.map (·.val)) (((kvs.map fun p => keyD p.1).zip ds).map (·.2)) bs := by
      rw [zip_snd _ _ hl, vals_of hp]
      exact h1
    refine ⟨_, .dict ho hx.1 hd hk hw, fun b hb => ?_⟩
    simp only [List.cons_append, List.nil_append, List.mem_cons, List.append_nil] at hb
    rcases hb with rfl | hb
    · exact ⟨_, e, .inr (by simpa using ns)⟩
    · exact h2 b hb
theorem DrA.reads (I : Inv X pins σ H s) : ∀ {vs : List V} {ds : List PyData} {us : List Value}, DrA X.K M H vs ds → Vals vs us →
    ∃ as, ReadsAll s.heap us ds as ∧ ∀ b ∈ as, ∃ o, H b = some o ∧ ((∃ xs, o = .lst xs) ∨ b ≠ sysModules)
  | _, _, _, .nil, r => by cases r; exact ⟨_, .nil, by simp⟩
  | _, _, _, .cons h t, r => by
    cases r with
    | cons r1 r2 =>
      obtain ⟨as, h1, h2⟩ := Dr.reads I h r1
      obtain ⟨bs, h3, h4⟩ := DrA.reads I t r2
      refine ⟨_, .cons h1 h3, fun b hb => ?_⟩
      rcases List.mem_append.mp hb with hb | hb
      · exact h2 b hb
      · exact h4 b hb
end
end
end DL
/-! nested keys; dicts whose keys are nested tuples of ints -/
namespace DL
open PySem PySem.Spec PyProof.Rows L2
mutual
/-- an int, or a tuple of such -/
def keyed : PyData → Bool
  | .int _ => true
  | .tuple ds => keyedA ds
  | _ => false
def keyedA : List PyData → Bool
  | [] => true
  | d :: ds => keyed d && keyedA ds
end
mutual
def nest : PyData → NestedKey
  | .int i => .num i
  | .tuple ds => .tup (nestA ds)
  | _ => .none
def nestA : List PyData → List NestedKey
  | [] => []
  | d :: ds => nest d :: nestA ds
end
mutual
theorem nest_data : ∀ d, keyed d = true → (nest d).data = d
  | .int i, _ => rfl
  | .tuple ds, h => by
    show PyData.tuple (NestedKey.datas (nestA ds)) = _
    rw [nest_datas ds h]
  | .none, h => (nomatch h)
  | .bool _, h => (nomatch h)
  | .str _, h => (nomatch h)
  | .list _, h => (nomatch h)
  | .dict _, h => (nomatch h)
theorem nest_datas : ∀ ds, keyedA ds = true → NestedKey.datas (nestA ds) = ds
  | [], _ => rfl
  | d :: ds, h => by
    have h' := Bool.and_eq_true_iff.mp (show (keyed d && keyedA ds) = true from h)
    show (nest d).data :: NestedKey.datas (nestA ds) = _
    rw [nest_data d h'.1, nest_datas ds h'.2]
end
mutual
theorem nest_depth : ∀ d, (nest d).depth ≤ d.depth
  | .int i => Nat.le_refl 0
  | .tuple ds => by
    have := nest_depthA ds
    show NestedKey.depthAll (nestA ds) + 1 ≤ PyData.depthAll ds + 1
    omega
  | .none => Nat.zero_le _
  | .bool _ => Nat.zero_le _
  | .str _ => Nat.zero_le _
  | .list _ => Nat.zero_le _
  | .dict _ => Nat.zero_le _
theorem nest_depthA : ∀ ds, NestedKey.depthAll (nestA ds) ≤ PyData.depthAll ds
  | [] => Nat.le_refl 0
  | d :: ds => by
    have h1 := nest_depth d
    have h2 := nest_depthA ds
    show max (nest d).depth (NestedKey.depthAll (nestA ds)) ≤ max d.depth (PyData.depthAll ds)
    omega
end
section
variable {X : Cx} {pins : List (Addr × Obj)} {σ : L2.St} {H : Hp} {s : Shared} {M : Addr → Prop}
mutual
theorem Dr.nests (I : Inv X pins σ H s) : ∀ {v : V} {d : PyData} {u : Value}, Dr X.K M H v d → keyed d = true → RelV v u → NestedIs s.heap (nest d) u
  | _, _, u, .int i, _, r => by obtain ⟨t, rfl⟩ := r; exact .int i t
  | _, _, u, .tup (xs := xs) e ra, h, r => by
    cases r
    obtain ⟨its, rv, ⟨o, ho, hc, k, hd⟩, _⟩ := I.tuple e
    exact .tup ho hc hd (by simpa using DrA.nests I ra h rv)
  | _, _, u, .non, h, r => nomatch h
  | _, _, u, .bl b, h, r => nomatch h
  | _, _, u, .str x, h, r => nomatch h
  | _, _, u, .lst _ _ _, h, r => nomatch h
  | _, _, u, .dic _ _ _, h, r => nomatch h
theorem DrA.nests (I : Inv X pins σ H s) : ∀ {vs : List V} {ds : List PyData} {us : List Value}, DrA X.K M H vs ds → keyedA ds = true → Vals vs us → NestedAll s.heap (nestA ds) us
  | _, _, _, .nil, _, r => by cases r; exact .nil
  | _, _, _, .cons (d := d) (ds := ds) h t, k, r => by
    have k' := Bool.and_eq_true_iff.mp (show (keyed d && keyedA ds) = true from k)
    cases r with
    | cons r1 r2 => exact .cons (Dr.nests I h k'.1 r1) (DrA.nests I t k'.2 r2)
end
end

abbrev KRow := NestedKey × Addr × Value
/-- at a: a dict with the rows xs (where its keys' tuples stand is told by the rows) -/
def kdO (P : Program) (w : World) (a : Addr) (xs : List KRow) : HO := .ext fun h => ∃ o es ep, h.get? a = some o ∧ o.ExactDict ∧ o.data = .dict es ep ∧ es.toList = xs.map (entryOfKey (nestedKind P w)) ∧ (xs.map (·.1)).Nodup ∧ (a == sysModules) = false
theorem kdO_ok {P : Program} {w : World} {H : Hp} {h : Heap} {a : Addr} {xs : List KRow} {o : Obj} {es : Array DictEntry} {ep : Nat} (e : h.get? a = some o) (hc : o.ExactDict) (hd : o.data = .dict es ep) (he : es.toList = xs.map (entryOfKey (nestedKind P w))) (hn : (xs.map (·.1)).Nodup) (hs : (a == sysModules) = false) :
    ObjOk P w H h a (kdO P w a xs) := ⟨⟨o, es, ep, e, hc, hd, he, hn, hs⟩, ⟨o, e⟩, fun _ _ ⟨o, es, ep, e, r⟩ k => ⟨o, es, ep, k _ e, r⟩⟩
theorem kdO_at {P : Program} {w : World} {H : Hp} {h : Heap} {a : Addr} {xs : List KRow} (hok : HOk P w H h) (e : H a = some (kdO P w a xs)) : ∃ o es ep, h.get? a = some o ∧ o.ExactDict ∧ o.data = .dict es ep ∧ es.toList = xs.map (entryOfKey (nestedKind P w)) ∧ (xs.map (·.1)).Nodup ∧ (a == sysModules) = false := by
  have x : ObjOk P w H h a (.ext fun h => ∃ o es ep, h.get? a = some o ∧ o.ExactDict ∧ o.data = .dict es ep ∧ es.toList = xs.map (entryOfKey (nestedKind P w)) ∧ (xs.map (·.1)).Nodup ∧ (a == sysModules) = false) := hok a _ e
  exact x.1
theorem kdO_mut {P : Program} {w : World} {a : Addr} {xs : List KRow} : mutO (kdO P w a xs) = true := rfl
/-- a key that is a nested tuple -/
def NKey (d : PyData) : Prop := (∃ r, d = .tuple r) ∧ keyed d = true ∧ d.depth ≤ 8
theorem nest_inj {d e : PyData} (hd : keyed d = true) (he : keyed e = true) (h : nest d = nest e) : d = e := by
  rw [← nest_data d hd, ← nest_data e he, h]
/-- a row holds a key and what stands there -/
def KRowOk (K : PySem.W.Frag) (M : Addr → Prop) (H : Hp) (x : KRow) (p : PyData × PyData) : Prop := NKey p.1 ∧ x.1 = nest p.1 ∧ Dr K M H (.ref x.2.1) p.1 ∧ ∃ v, RelV v x.2.2 ∧ Dr K M H v p.2
abbrev KRows (K : PySem.W.Frag) (M : Addr → Prop) (H : Hp) : List KRow → List (PyData × PyData) → Prop := Paired (KRowOk K M H)
section
variable {K : PySem.W.Frag} {M M' : Addr → Prop} {H H' : Hp}
theorem KRowOk.map (hM : ∀ a o, H a = some o → M' a → M a) (hH : Stays M H H') {x : KRow} {p : PyData × PyData} (r : KRowOk K M H x p) : KRowOk K M' H' x p := by
  obtain ⟨a, b, c, v, d, e⟩ := r
  exact ⟨a, b, c.map hM hH, v, d, e.map hM hH⟩
theorem KRows.map (hM : ∀ a o, H a = some o → M' a → M a) (hH : Stays M H H') {xs : List KRow} {ps : List (PyData × PyData)} (r : KRows K M H xs ps) : KRows K M' H' xs ps := Paired.mapP r fun _ _ z => z.map hM hH
theorem KRows.stays {xs : List KRow} {ps : List (PyData × PyData)} (r : KRows K M H xs ps) (h : Stays M H H') : KRows K M H' xs ps := r.map (fun _ _ _ z => z) h
theorem KRows.less {xs : List KRow} {ps : List (PyData × PyData)} (r : KRows K M H xs ps) (h : ∀ a, M' a → M a) : KRows K M' H xs ps := r.map (fun a _ _ z => h a z) Stays.refl
/-- d[k] = v -/
def kPut (ps : List (PyData × PyData)) (k v : PyData) : List (PyData × PyData) := if (ps.any fun p => decide (nest p.1 = nest k)) = true then ps.map (fun p => if nest p.1 = nest k then (p.1, v) else p) else ps ++ [(k, v)]
def kGet (ps : List (PyData × PyData)) (k : PyData) : Option PyData := (ps.find? fun p => decide (nest p.1 = nest k)).map (·.2)
theorem KRows.len : ∀ {xs : List KRow} {ps : List (PyData × PyData)}, KRows K M H xs ps → xs.length = ps.length := fun r => Paired.length r
theorem KRows.any {k : PyData} : ∀ {xs : List KRow} {ps : List (PyData × PyData)}, KRows K M H xs ps → (atKey xs (nest k)).isSome = ps.any fun p => decide (nest p.1 = nest k)
  | _, _, .nil => rfl
  | _, _, .cons (a := x) (b := p) (l₁ := xs) (l₂ := ps) r t => by
    have ih := KRows.any (k := k) t
    rw [List.any_cons, ← ih]
    unfold atKey
    by_cases h : nest p.1 = nest k
    · rw [List.find?_cons_of_pos (by rw [r.2.1]; simpa using h)]
      simp [h]
    · rw [List.find?_cons_of_neg (by rw [r.2.1]; simpa using h)]
      simp [h]
theorem KRows.get {k : PyData} {y : PyData} : ∀ {xs : List KRow} {ps : List (PyData × PyData)}, KRows K M H xs ps → kGet ps k = some y → ∃ a u v, atKey xs (nest k) = some (a, u) ∧ RelV v u ∧ Dr K M H v y
  | _, _, .nil, e => by cases e
  | _, _, .cons (a := x) (b := p) (l₁ := xs) (l₂ := ps) r t, e => by
    unfold kGet at e
    by_cases h : nest p.1 = nest k
    · rw [List.find?_cons_of_pos (by simpa using h)] at e
      cases e
      obtain ⟨_, hx, _, v, rv, dv⟩ := r
      refine ⟨x.2.1, x.2.2, v, ?_, rv, dv⟩
      unfold atKey
      rw [List.find?_cons_of_pos (by rw [hx]; simpa using h)]
      rfl
    · rw [List.find?_cons_of_neg (by simpa using h)] at e
      obtain ⟨a, u, v, q, rest⟩ := KRows.get t (show kGet _ k = some y from e)
      refine ⟨a, u, v, ?_, rest⟩
      unfold atKey at q ⊢
      rw [List.find?_cons_of_neg (by rw [r.2.1]; simpa using h)]
      exact q
theorem KRows.put {k : PyData} {a : Addr} {u : Value} {v : V} {y : PyData} (hk : NKey k) (ra : Dr K M H (.ref a) k) (ru : RelV v u) (rv : Dr K M H v y) {xs : List KRow} {ps : List (PyData × PyData)} (r : KRows K M H xs ps) : KRows K M H (storedH xs (nest k) a u) (kPut ps k y) := by
  unfold storedH kPut
  rw [r.any (k := k)]
  by_cases h : (ps.any fun p => decide (nest p.1 = nest k)) = true
  · rw [if_pos h, if_pos h]
    clear h
    induction r with
    | nil => exact .nil
    | @cons x p xs ps r t ih =>
      refine .cons ?_ ih
      show KRowOk K M H (if x.1 = nest k then (x.1, x.2.1, u) else x) (if nest p.1 = nest k then (p.1, y) else p)
      obtain ⟨r1, r2, r3, v0, r4, r5⟩ := r
      rw [r2]
      by_cases h : nest p.1 = nest k
      · rw [if_pos h, if_pos h]
        exact ⟨r1, rfl, r3, v, ru, rv⟩
      · rw [if_neg h, if_neg h]
        exact ⟨r1, r2, r3, v0, r4, r5⟩
  · rw [if_neg h, if_neg h]
    clear h
    induction r with
    | nil => exact .cons ⟨hk, rfl, ra, v, ru, rv⟩ .nil
    | cons r t ih => exact .cons r ih
theorem kPut_len (ps : List (PyData × PyData)) (k v : PyData) : (kPut ps k v).length ≤ ps.length + 1 := by
  unfold kPut
  split
  · rw [List.length_map]; omega
  · rw [List.length_append]; exact Nat.le_refl _
end
section
variable {X : Cx} {pins : List (Addr × Obj)} {σ : L2.St} {H : Hp} {s : Shared} {M : Addr → Prop}
/-- the heap has the dict that is told -/
theorem KRows.dict {K : PySem.W.Frag} (hK : X.K = K) (I : Inv X pins σ H s) {a : Addr} {xs : List KRow} {ps : List (PyData × PyData)} (e : H a = some (kdO X.prog X.w a xs)) (r : KRows K M H xs ps) : (a == sysModules) = false ∧ s.heap.DictOfH (nestedKind X.prog X.w) a xs := by
  subst hK
  obtain ⟨o, es, ep, h1, h2, h3, h4, h5, h6⟩ := kdO_at I.hok e
  refine ⟨h6, o, es, ep, h1, h2, h3, h4, fun x hx => ?_, h5⟩
  clear h1 h2 h3 h4 h5 h6 e
  induction r with
  | nil => cases hx
  | cons r t ih =>
    rcases List.mem_cons.mp hx with rfl | hx
    · obtain ⟨⟨_, r1, r2⟩, r3, r4, _⟩ := r
      rw [r3]
      exact ⟨Dr.nests I r4 r1 (show RelV (.ref x.2.1) (Value.ref x.2.1) from rfl), Nat.le_trans (nest_depth _) r2⟩
    · exact ih hx
theorem NKey.is {K : PySem.W.Frag} (hK : X.K = K) (I : Inv X pins σ H s) {a : Addr} {d : PyData} (h : NKey d) (r : Dr K M H (.ref a) d) : (nestedKind X.prog X.w).is s.heap (nest d) a := by
  subst hK
  exact ⟨Dr.nests I r h.2.1 (show RelV (.ref a) (Value.ref a) from rfl), Nat.le_trans (nest_depth _) h.2.2⟩
end
end DL
/-! dicts whose keys are ints and texts, over data -/
namespace DL
open PySem PySem.Spec PyProof.Rows L2
/-! ### dicts by comprehension; items -/
def dPut (kd : List (Key × PyData)) (k : Key) (d : PyData) : List (Key × PyData) := if (kd.any fun p => decide (p.1 = k)) then kd.map (fun p => if p.1 = k then (p.1, d) else p) else kd ++ [(k, d)]
def dGet (kd : List (Key × PyData)) (k : Key) : Option PyData := (kd.find? fun p => decide (p.1 = k)).map (·.2)
def dOf (kd : List (Key × PyData)) : PyData := .dict (kd.map fun p => (keyD p.1, p.2))
/-- the tracked pairs hold these -/
inductive DrK (K : PySem.W.Frag) (M : Addr → Prop) (H : Hp) : List (Key × V) → List (Key × PyData) → Prop
  | nil : DrK K M H [] []
  | cons {k : Key} {v : V} {d : PyData} {kvs : List (Key × V)} {kd : List (Key × PyData)} : Dr K M H v d → DrK K M H kvs kd → DrK K M H ((k, v) :: kvs) ((k, d) :: kd)
section
variable {K : PySem.W.Frag} {M M' : Addr → Prop} {H H' : Hp}
theorem DrK.map (hM : ∀ a o, H a = some o → M' a → M a) (hH : Stays M H H') : ∀ {kvs : List (Key × V)} {kd : List (Key × PyData)}, DrK K M H kvs kd → DrK K M' H' kvs kd
  | _, _, .nil => .nil
  | _, _, .cons r t => .cons (r.map hM hH) (DrK.map hM hH t)
theorem DrK.stays {kvs : List (Key × V)} {kd : List (Key × PyData)} (r : DrK K M H kvs kd) (h : Stays M H H') : DrK K M H' kvs kd := r.map (fun _ _ _ z => z) h
theorem DrK.less {kvs : List (Key × V)} {kd : List (Key × PyData)} (r : DrK K M H kvs kd) (h : ∀ a, M' a → M a) : DrK K M' H kvs kd := r.map (fun a _ _ z => h a z) Stays.refl
theorem DrK.length : ∀ {kvs : List (Key × V)} {kd : List (Key × PyData)}, DrK K M H kvs kd → kd.length = kvs.length
  | _, _, .nil => rfl
  | _, _, .cons _ t => by rw [List.length_cons, List.length_cons, DrK.length t]
theorem DrK.any {k : Key} : ∀ {kvs : List (Key × V)} {kd : List (Key × PyData)}, DrK K M H kvs kd → (kvs.any fun p => decide (p.1 = k)) = kd.any fun p => decide (p.1 = k)
  | _, _, .nil => rfl
  | _, _, .cons _ t => by rw [List.any_cons, List.any_cons, DrK.any t]
theorem DrK.snoc {k : Key} {v : V} {d : PyData} (rv : Dr K M H v d) : ∀ {kvs : List (Key × V)} {kd : List (Key × PyData)}, DrK K M H kvs kd → DrK K M H (kvs ++ [(k, v)]) (kd ++ [(k, d)])
  | _, _, .nil => .cons rv .nil
  | _, _, .cons r t => .cons r (DrK.snoc rv t)
theorem DrK.over {k : Key} {v : V} {d : PyData} (rv : Dr K M H v d) : ∀ {kvs : List (Key × V)} {kd : List (Key × PyData)}, DrK K M H kvs kd →
    DrK K M H (kvs.map fun p => if p.1 = k then (p.1, v) else p) (kd.map fun p => if p.1 = k then (p.1, d) else p)
  | _, _, .nil => .nil
  | _, _, .cons (k := j) r t => by
    rw [List.map_cons, List.map_cons]
    by_cases h : j = k
    · rw [if_pos h, if_pos h]; exact .cons rv (DrK.over rv t)
    · rw [if_neg h, if_neg h]; exact .cons r (DrK.over rv t)
theorem DrK.put {k : Key} {v : V} {d : PyData} {kvs : List (Key × V)} {kd : List (Key × PyData)} (r : DrK K M H kvs kd) (rv : Dr K M H v d) : DrK K M H (putK kvs k v) (dPut kd k d) := by
  unfold putK dPut
  rw [r.any]
  split
  · exact r.over rv
  · exact r.snoc rv
theorem DrK.get {k : Key} {d : PyData} : ∀ {kvs : List (Key × V)} {kd : List (Key × PyData)}, DrK K M H kvs kd → dGet kd k = some d → ∃ v, valV kvs k = some v ∧ Dr K M H v d
  | _, _, .nil, e => by cases e
  | _, _, .cons (k := j) (v := v) r t, e => by
    by_cases h : j = k
    · refine ⟨v, valV_pos h, ?_⟩
      unfold dGet at e
      rw [List.find?_cons_of_pos (by simpa using h)] at e
      cases e
      exact r
    · unfold dGet at e
      rw [List.find?_cons_of_neg (by simpa using h)] at e
      obtain ⟨v, hv, rv⟩ := DrK.get t e
      exact ⟨v, by rw [valV_neg h]; exact hv, rv⟩
theorem DrK.dr {a : Addr} : ∀ {kvs : List (Key × V)} {kd : List (Key × PyData)}, DrK K M H kvs kd → DrA K M H (kvs.map (·.2)) (kd.map (·.2)) ∧ kvs.map (fun p => keyD p.1) = kd.map (fun p => keyD p.1)
  | _, _, .nil => ⟨.nil, rfl⟩
  | _, _, .cons r t => by
    obtain ⟨h1, h2⟩ := DrK.dr (a := a) t
    exact ⟨.cons r h1, by rw [List.map_cons, List.map_cons, h2]⟩
theorem DrK.to {a : Addr} {kvs : List (Key × V)} {kd : List (Key × PyData)} (r : DrK K M H kvs kd) (n : ¬ M a) (h : H a = some (.dK kvs)) : Dr K M H (.ref a) (dOf kd) := by
  obtain ⟨h1, h2⟩ := r.dr (a := a)
  have e : dOf kd = .dict ((kvs.map fun p => keyD p.1).zip (kd.map (·.2))) := by
    unfold dOf
    rw [h2, List.zip_map', ]
  rw [e]
  exact .dic n h h1
theorem keyD_inj {j k : Key} (h : keyD j = keyD k) : j = k := by
  cases j <;> cases k <;> simp [keyD] at h <;> rw [h]
theorem DrK.of : ∀ {kvs : List (Key × V)} {ds : List PyData} {kd : List (Key × PyData)}, DrA K M H (kvs.map (·.2)) ds → (kvs.map fun p => keyD p.1).zip ds = kd.map (fun p => (keyD p.1, p.2)) → DrK K M H kvs kd
  | [], _, [], r, e => .nil
  | [], _, q :: kd, r, e => by simp at e
  | p :: kvs, _, kd, r, e => by
    cases r with
    | cons r1 r2 =>
      cases kd with
      | nil => simp at e
      | cons q kd =>
        rw [List.map_cons, List.zip_cons_cons, List.map_cons] at e
        injection e with e1 e2
        obtain ⟨j, v⟩ := p
        obtain ⟨k, d⟩ := q
        injection e1 with e3 e4
        have := keyD_inj e3
        subst this
        subst e4
        exact .cons r1 (DrK.of r2 e2)
theorem Dr.dict {a : V} {kd : List (Key × PyData)} (r : Dr K M H a (dOf kd)) : ∃ b kvs, a = .ref b ∧ ¬ M b ∧ H b = some (.dK kvs) ∧ DrK K M H kvs kd := by
  unfold dOf at r
  generalize e : kd.map (fun p => (keyD p.1, p.2)) = es at r
  cases r with
  | dic n h ra => exact ⟨_, _, rfl, n, h, DrK.of ra e.symm⟩
end
end DL
/-! the judgements over data: slots, expressions, arguments, tests, statements -/
namespace DL
open PySem PySem.Spec PyProof.Rows L2

/-- what is known of a slot -/
inductive SV where
  | un
  | d (x : PyData)
  | pen
  | own (ds : List PyData)
  | raw (v : V)
  | lenL (n : Nat)
  | kd (P : Program) (w : World) (ps : List (PyData × PyData))
  | ownD (kd : List (Key × PyData))
abbrev Dl := List SV
/-- of a body: the caller's changing objects, the pen's place, the heap at the entry -/
structure Ct where
  M : Addr → Prop
  p : Option Addr
  H0 : Hp
def ExtP (p : Option Addr) (H H' : Hp) : Prop := ∀ b o, H b = some o → p ≠ some b → H' b = some o
def PenV (K : PySem.W.Frag) (M : Addr → Prop) (H : Hp) (p : Option Addr) : Prop := ∀ q, p = some q → M q ∧
  ∃ (g : Addr) (s b : Int) (ns : List Int), H q = some (.lst [.ref g, .int s, .int b]) ∧ Dr K M H (.ref g) (.list (ns.map .int)) ∧ 0 ≤ s ∧ 0 ≤ b
def sAt (σ : Sl) (i : Nat) : Option V := (σ[i]?).getD none
def SlotOk (K : PySem.W.Frag) (C : Ct) (M : Addr → Prop) (H : Hp) (o : Option V) : SV → Prop
  | .un => True
  | .d x => ∃ v, o = some v ∧ Dr K M H v x
  | .pen => ∃ q, C.p = some q ∧ o = some (.ref q)
  | .own ds => ∃ a xs, o = some (.ref a) ∧ M a ∧ C.H0 a = none ∧ H a = some (.lst xs) ∧ DrA K M H xs ds
  | .raw v => o = some v
  | .lenL n => ∃ a xs, o = some (.ref a) ∧ xs.length = n ∧ ((∃ u, C.H0 a = some (.frz u (.lst xs)) ∧ C.p ≠ some a) ∨ SqL K (fun _ => none) a xs)
  | .kd P w ps => ∃ a xs, o = some (.ref a) ∧ ¬ M a ∧ H a = some (kdO P w a xs) ∧ KRows K M H xs ps
  | .ownD kd => ∃ a kvs, o = some (.ref a) ∧ M a ∧ C.H0 a = none ∧ H a = some (.dK kvs) ∧ DrK K M H kvs kd
structure Ok (K : PySem.W.Frag) (C : Ct) (M : Addr → Prop) (H : Hp) (σ : Sl) (δ : Dl) : Prop where
  len : δ.length = σ.length
  slot : ∀ i sv, δ[i]? = some sv → SlotOk K C M H (sAt σ i) sv
  dist : ∀ i j a ds es, δ[i]? = some (.own ds) → δ[j]? = some (.own es) → sAt σ i = some (.ref a) → sAt σ j = some (.ref a) → i = j
  ext : ExtP C.p C.H0 H
  sub : ∀ a, C.M a → M a
  alive : ∀ a, M a → ∃ o, H a = some o
  pen : PenV K M H C.p
  pH0 : ∀ q, C.p = some q → ∃ o, C.H0 q = some o
  c0 : ∀ a, C.M a → ∃ o, C.H0 a = some o

section
variable {K : PySem.W.Frag} {C : Ct} {M M' : Addr → Prop} {H H' H2 : Hp} {σ : Sl} {δ : Dl} {p : Option Addr}
theorem ExtP.refl : ExtP p H H := fun _ _ e _ => e
theorem ExtP.trans (h : ExtP p H H') (h' : ExtP p H' H2) : ExtP p H H2 := fun b o e n => h' b o (h b o e n) n
theorem ExtP.of_same (h : Same H H') : ExtP p H H' := fun b o e _ => h b o e
theorem ExtP.stays (h : ExtP p H H') (pv : PenV K M H p) : Stays M H H' := fun a o e n => by
  refine h a o e fun z => ?_
  obtain ⟨m, g, s, b, ns, e2, _⟩ := pv a z
  rw [e] at e2
  cases e2
  exact n rfl m
theorem ExtP.new {q : Addr} {o : HO} (h : H q = none) : ExtP p H (upd H q o) := fun b x e _ => by
  rw [upd_ne (ne_of_none e h)]
  exact e
theorem same_new {q : Addr} {o : HO} (h : H q = none) : Same H (upd H q o) := fun b x e => by
  rw [upd_ne (ne_of_none e h)]
  exact e
theorem PenV.stay (pv : PenV K M H p) (h : Same H H') : PenV K M H' p := fun q z => by
  obtain ⟨m, g, s, b, ns, e, r, h1, h2⟩ := pv q z
  exact ⟨m, g, s, b, ns, h _ _ e, r.stays (Stays.of_same h), h1, h2⟩
theorem PenV.new {q : Addr} {o : HO} (pv : PenV K M H p) (h : H q = none) : PenV K M (upd H q o) p := pv.stay (same_new h)
theorem SlotOk.map {o : Option V} {sv : SV} (h : SlotOk K C M H o sv) (hs : Stays M H H') (hx : ExtP C.p H H') (nop : ∀ q, C.p = some q → ∃ o, C.H0 q = some o) : SlotOk K C M H' o sv := by
  cases sv with
  | un => exact h
  | d x => obtain ⟨v, e, r⟩ := h; exact ⟨v, e, r.stays hs⟩
  | pen => exact h
  | own ds =>
    obtain ⟨a, xs, e, m, h0, ha, r⟩ := h
    refine ⟨a, xs, e, m, h0, hx _ _ ha fun z => ?_, r.stays hs⟩
    obtain ⟨o, e⟩ := nop _ z
    rw [h0] at e
    cases e
  | raw v => exact h
  | lenL n => exact h
  | kd P w ps => obtain ⟨a, xs, e, n, ha, r⟩ := h; exact ⟨a, xs, e, n, hs _ _ ha fun _ => n, r.stays hs⟩
  | ownD kd =>
    obtain ⟨a, kvs, e, m, h0, ha, r⟩ := h
    refine ⟨a, kvs, e, m, h0, hx _ _ ha fun z => ?_, r.stays hs⟩
    obtain ⟨o, e⟩ := nop _ z
    rw [h0] at e
    cases e
/-- behind an expression -/
theorem Ok.next (I : Ok K C M H σ δ) (hx : ExtP C.p H H') (pv : PenV K M H' C.p) : Ok K C M H' σ δ :=
  ⟨I.len, fun i sv e => (I.slot i sv e).map (hx.stays I.pen) hx I.pH0, I.dist, I.ext.trans hx, I.sub, fun a m => by
    obtain ⟨o, e⟩ := I.alive a m
    by_cases z : C.p = some a
    · obtain ⟨_, g, s, b, ns, e2, _⟩ := pv a z
      exact ⟨_, e2⟩
    · exact ⟨o, hx _ _ e z⟩, pv, I.pH0, I.c0⟩
theorem Ok.same (I : Ok K C M H σ δ) (hx : Same H H') : Ok K C M H' σ δ := I.next (ExtP.of_same hx) (I.pen.stay hx)
theorem Ok.fresh0 (I : Ok K C M H σ δ) {a : Addr} (h : H a = none) : C.H0 a = none := by
  cases q : C.H0 a with
  | none => rfl
  | some o =>
    by_cases z : C.p = some a
    · obtain ⟨_, g, s, b, ns, e2, _⟩ := I.pen a z
      rw [h] at e2
      cases e2
    · have e := I.ext a o q z
      rw [h] at e
      cases e
theorem Ok.freshM (I : Ok K C M H σ δ) {a : Addr} (h : H a = none) : ¬ M a := fun m => by
  obtain ⟨o, e⟩ := I.alive a m
  rw [h] at e
  cases e
end

/-! ### the judgements -/
abbrev WE := Dl → (PyData → Prop) → Prop
abbrev WF := Dl → (List PyData → Prop) → Prop
abbrev WA := Dl → (List SV → Prop) → Prop
abbrev WT := Dl → (Bool → Prop) → Prop
structure DP where
  nx : Dl → Prop
  rt : PyData → Prop
  bk : Dl → Prop := fun _ => False
  ct : Dl → Prop := fun _ => False
abbrev WS := DP → Dl → Prop
/-- an argument: data, the pen, or a known value -/
def ArgOk (K : PySem.W.Frag) (p : Option Addr) (M : Addr → Prop) (H : Hp) (v : V) : SV → Prop
  | .d x => Dr K M H v x
  | .pen => ∃ q, p = some q ∧ v = .ref q
  | .raw u => v = u
  | _ => False
inductive ArgsOk (K : PySem.W.Frag) (p : Option Addr) (M : Addr → Prop) (H : Hp) : List V → List SV → Prop
  | nil : ArgsOk K p M H [] []
  | cons {v : V} {vs : List V} {sv : SV} {svs : List SV} : ArgOk K p M H v sv → ArgsOk K p M H vs svs → ArgsOk K p M H (v :: vs) (sv :: svs)
def With (M : Addr → Prop) (a : Addr) : Addr → Prop := fun b => M b ∨ b = a
section
variable (K : PySem.W.Frag)
structure DEt (t : TE) (w : WE) : Prop where
  run : ∀ C M H σ δ Q Φ, Ok K C M H σ δ → w δ Φ → (∀ v d H', ExtP C.p H H' → PenV K M H' C.p → Dr K M H' v d → Φ d → Q v H') → t σ H Q
/-- the value is a new list -/
structure DFt (t : TE) (w : WF) : Prop where
  run : ∀ C M H σ δ Q Φ, Ok K C M H σ δ → w δ Φ →
    (∀ a xs ds H', ExtP C.p H H' → H a = none → H' a = some (.lst xs) → PenV K (With M a) H' C.p → DrA K (With M a) H' xs ds → Φ ds → Q (.ref a) H') → t σ H Q
structure DAt (t : TA) (w : WA) : Prop where
  run : ∀ C M H σ δ Q Φ, Ok K C M H σ δ → w δ Φ → (∀ vs svs H', ExtP C.p H H' → PenV K M H' C.p → ArgsOk K C.p M H' vs svs → Φ svs → Q vs H') → t σ H Q
structure DTt (t : TT) (w : WT) : Prop where
  run : ∀ C M H σ δ Q Φ, Ok K C M H σ δ → w δ Φ → (∀ b H', ExtP C.p H H' → PenV K M H' C.p → Φ b → Q b H') → t σ H Q
/-- what was read stays readable -/
def Tr (M : Addr → Prop) (H : Hp) (M' : Addr → Prop) (H' : Hp) : Prop := ∀ v d, Dr K M H v d → Dr K M' H' v d
structure Cn (C : Ct) (M : Addr → Prop) (H : Hp) (Φ : DP) (D : Ends) : Prop where
  nx : ∀ M' σ' δ' H', Ok K C M' H' σ' δ' → Tr K M H M' H' → Φ.nx δ' → D.nx σ' H'
  bk : ∀ M' σ' δ' H', Ok K C M' H' σ' δ' → Tr K M H M' H' → Φ.bk δ' → D.bk σ' H'
  ct : ∀ M' σ' δ' H', Ok K C M' H' σ' δ' → Tr K M H M' H' → Φ.ct δ' → D.ct σ' H'
  rt : ∀ M' σ' δ' H' v d, Ok K C M' H' σ' δ' → Tr K M H M' H' → Dr K M' H' v d → Φ.rt d → D.rt v H'
structure DSt (t : TS) (w : WS) : Prop where
  run : ∀ C M H σ δ D Φ, Ok K C M H σ δ → w Φ δ → Cn K C M H Φ D → t D σ H
end
structure DE (X : Cx) (e : Expr) (t : TE) (w : WE) : Prop where
  pe : PE X e t
  dt : DEt X.K t w
structure DF (X : Cx) (e : Expr) (t : TE) (w : WF) : Prop where
  pe : PE X e t
  dt : DFt X.K t w
structure DA (X : Cx) (es : List Expr) (t : TA) (w : WA) : Prop where
  pe : PA X es t
  dt : DAt X.K t w
structure DT (X : Cx) (e : Expr) (t : TT) (w : WT) : Prop where
  pe : PT X e t
  dt : DTt X.K t w
structure DW (X : Cx) (e : Expr) (t : TT) (w : WT) : Prop where
  pe : PW X e t
  dt : DTt X.K t w
structure DS (X : Cx) (st : Stmt) (t : TS) (w : WS) : Prop where
  pe : PS X st t
  dt : DSt X.K t w
structure DSs (X : Cx) (sts : List Stmt) (t : TS) (w : WS) : Prop where
  pe : PSs X sts t
  dt : DSt X.K t w

section
variable {K : PySem.W.Frag} {C : Ct} {M M' M2 : Addr → Prop} {H H' H2 : Hp} {σ : Sl} {δ : Dl} {p : Option Addr}
theorem Tr.refl : Tr K M H M H := fun _ _ r => r
theorem Tr.trans (h : Tr K M H M' H') (h' : Tr K M' H' M2 H2) : Tr K M H M2 H2 := fun v d r => h' v d (h v d r)
theorem Tr.of_ext (I : PenV K M H p) (h : ExtP p H H') : Tr K M H M H' := fun _ _ r => r.stays (h.stays I)
theorem ArgOk.ext {v : V} {sv : SV} (h : ArgOk K p M H v sv) (hs : Stays M H H') : ArgOk K p M H' v sv := by
  cases sv with
  | un => exact h
  | d x => exact Dr.stays h hs
  | pen => exact h
  | own ds => exact h
  | raw v => exact h
  | lenL n => exact h
  | kd P w ps => exact h
  | ownD kd => exact h
theorem ArgsOk.ext : ∀ {vs : List V} {svs : List SV}, ArgsOk K p M H vs svs → Stays M H H' → ArgsOk K p M H' vs svs
  | _, _, .nil, _ => .nil
  | _, _, .cons h t, hs => .cons (h.ext hs) (ArgsOk.ext t hs)
theorem ArgsOk.length : ∀ {vs : List V} {svs : List SV}, ArgsOk K p M H vs svs → svs.length = vs.length
  | _, _, .nil => rfl
  | _, _, .cons h t => by rw [List.length_cons, List.length_cons, ArgsOk.length t]
/-- all are data -/
def allD : List SV → Option (List PyData)
  | [] => some []
  | .d x :: r => (allD r).map (x :: ·)
  | _ :: _ => none
theorem ArgsOk.data : ∀ {vs : List V} {svs : List SV} {ds : List PyData}, ArgsOk K p M H vs svs → allD svs = some ds → DrA K M H vs ds
  | _, _, _, .nil, e => by cases e; exact .nil
  | _, _, _, .cons (sv := .d x) h t, e => by
    obtain ⟨r, e1, e2⟩ := Option.map_eq_some_iff.mp (show (allD _).map (x :: ·) = some _ from e)
    subst e2
    exact .cons h (ArgsOk.data t e1)
  | _, _, _, .cons (sv := .un) h t, e => by cases e
  | _, _, _, .cons (sv := .pen) h t, e => by cases e
  | _, _, _, .cons (sv := .own _) h t, e => by cases e
  | _, _, _, .cons (sv := .raw _) h t, e => by cases e
  | _, _, _, .cons (sv := .lenL _) h t, e => by cases e
  | _, _, _, .cons (sv := .kd _ _ _) h t, e => by cases e
  | _, _, _, .cons (sv := .ownD _) h t, e => by cases e
theorem DFt.to {t : TE} {w : WF} (h : DFt K t w) : DEt K t (fun δ Φ => w δ fun ds => Φ (.list ds)) := by
  refine ⟨fun C M H σ δ Q Φ I hw q => h.run C M H σ δ Q _ I hw fun a xs ds H' hx ha ha' pv r hf => ?_⟩
  refine q _ _ H' hx (fun z e => ?_) (.lst (I.freshM ha) ha' (r.less fun _ => .inl)) hf
  obtain ⟨m, g, s, b, ns, e1, r1, h1, h2⟩ := pv z e
  exact ⟨(I.pen z e).1, g, s, b, ns, e1, r1.less fun _ => .inl, h1, h2⟩
end
theorem DF.to {X : Cx} {e : Expr} {t : TE} {w : WF} (h : DF X e t w) : DE X e t (fun δ Φ => w δ fun ds => Φ (.list ds)) := ⟨h.pe, h.dt.to⟩

/-! ### names, constants -/
section
variable {X : Cx} {K : PySem.W.Frag}
theorem sAt_some {σ : Sl} {i : Nat} {v : V} (h : sAt σ i = some v) : σ[i]? = some (some v) := by
  unfold sAt at h
  cases q : σ[i]? with
  | none => rw [q] at h; cases h
  | some o => rw [q] at h; simp at h; rw [h]
def wVar (i : Nat) : WE := fun δ Φ => match δ[i]? with
  | some (.d x) => Φ x
  | _ => False
theorem dt_var {i : Nat} : DEt K (tVar i) (wVar i) := by
  refine ⟨fun C M H σ δ Q Φ I hw q => ?_⟩
  unfold wVar at hw
  split at hw
  · rename_i x e
    obtain ⟨v, e1, r⟩ := I.slot i _ e
    exact ⟨v, sAt_some e1, q v x H ExtP.refl I.pen r hw⟩
  · exact hw.elim
theorem dv (i : Nat) {x : Str} {pos : Pos} (hN : X.N[i]? = some x := by rfl)
    (hv : Vis X.env.scope x := by first | exact Or.inl rfl | exact Or.inr (Or.inl rfl) | exact Or.inr (Or.inr rfl))
    (hd : (x == ("__debug__" : Str)) = false := by decide) (hcd : (x == ("__classdict__" : Str)) = false := by decide) : DE X (.Name x pos) (tVar i) (wVar i) :=
  ⟨pe_var hN hv hd hcd, dt_var⟩
def wC (d : PyData) : WE := fun _ Φ => Φ d
theorem dt_c {v : V} {d : PyData} (h : ∀ M H, Dr K M H v d) : DEt K (tC v) (wC d) := ⟨fun C M H σ δ Q Φ I hw q => q _ _ H ExtP.refl I.pen (h M H) hw⟩
theorem de_int {i j pos} : DE X (.Constant (.int i) j pos) (tC (.int i)) (wC (.int i)) := ⟨pe_int, dt_c fun _ _ => .int i⟩
theorem de_bl {b j pos} : DE X (.Constant (.bool b) j pos) (tC (.bl b)) (wC (.bool b)) := ⟨pe_bl, dt_c fun _ _ => .bl b⟩
theorem de_non {j pos} : DE X (.Constant .none j pos) (tC .non) (wC .none) := ⟨pe_non, dt_c fun _ _ => .non⟩
theorem de_str {x j pos} : DE X (.Constant (.str x) j pos) (tC (.str x)) (wC (.str x)) := ⟨pe_str, dt_c fun _ _ => .str x⟩
end

/-! ### arguments, displays -/
section
variable {X : Cx} {K : PySem.W.Frag} {e : Expr} {es : List Expr} {te : TE} {t : TA} {we : WE} {w : WA}
def wNil : WA := fun _ Φ => Φ []
def wCons (we : WE) (w : WA) : WA := fun δ Φ => we δ fun d => w δ fun svs => Φ (.d d :: svs)
theorem da_nil : DA X [] tNil wNil := ⟨pa_nil, ⟨fun C M H σ δ Q Φ I hw q => q _ _ H ExtP.refl I.pen .nil hw⟩⟩
theorem dat_cons (h1 : DEt K te we) (h2 : DAt K t w) : DAt K (tCons te t) (wCons we w) := by
  refine ⟨fun C M H σ δ Q Φ I hw q => h1.run C M H σ δ _ _ I hw fun v d H1 x1 p1 r1 hw1 => ?_⟩
  refine h2.run C M H1 σ δ _ _ (I.next x1 p1) hw1 fun vs svs H2 x2 p2 r2 hw2 => ?_
  exact q (v :: vs) (.d d :: svs) H2 (x1.trans x2) p2 (.cons (show ArgOk K C.p M H2 v (.d d) from r1.stays (x2.stays p1)) r2) hw2
theorem da_cons (h1 : DE X e te we) (h2 : DA X es t w) (hs : starEach (e :: es) X.env = (false, eval e X.env) :: starEach es X.env := by rfl) : DA X (e :: es) (tCons te t) (wCons we w) :=
  ⟨pa_cons h1.pe h2.pe hs, dat_cons h1.dt h2.dt⟩
/-- the pen, or a known value, as an argument -/
def wArg (i : Nat) (w : WA) : WA := fun δ Φ => match δ[i]? with
  | some .pen => w δ fun svs => Φ (.pen :: svs)
  | some (.raw v) => w δ fun svs => Φ (.raw v :: svs)
  | _ => False
theorem dat_arg {i : Nat} (h2 : DAt K t w) : DAt K (tCons (tVar i) t) (wArg i w) := by
  refine ⟨fun C M H σ δ Q Φ I hw q => ?_⟩
  unfold wArg at hw
  split at hw
  · rename_i e
    obtain ⟨a, e0, e1⟩ := I.slot i _ e
    exact ⟨_, sAt_some e1, h2.run C M H σ δ _ _ I hw fun vs svs H2 x2 p2 r2 hw2 => q (.ref a :: vs) (.pen :: svs) H2 x2 p2 (.cons (show ArgOk K C.p M H2 (.ref a) .pen from ⟨a, e0, rfl⟩) r2) hw2⟩
  · rename_i v e
    have e1 : sAt σ i = some v := I.slot i _ e
    exact ⟨_, sAt_some e1, h2.run C M H σ δ _ _ I hw fun vs svs H2 x2 p2 r2 hw2 => q (v :: vs) (.raw v :: svs) H2 x2 p2 (.cons (show ArgOk K C.p M H2 v (.raw v) from rfl) r2) hw2⟩
  · exact hw.elim
theorem da_arg (i : Nat) {x : Str} {pos : Pos} (h2 : DA X es t w) (hN : X.N[i]? = some x := by rfl)
    (hv : Vis X.env.scope x := by first | exact Or.inl rfl | exact Or.inr (Or.inl rfl) | exact Or.inr (Or.inr rfl))
    (hd : (x == ("__debug__" : Str)) = false := by decide) (hcd : (x == ("__classdict__" : Str)) = false := by decide)
    (hs : starEach (.Name x pos :: es) X.env = (false, eval (.Name x pos) X.env) :: starEach es X.env := by rfl) : DA X (.Name x pos :: es) (tCons (tVar i) t) (wArg i w) :=
  ⟨pa_cons (pe_var hN hv hd hcd) h2.pe hs, dat_arg h2.dt⟩
/-- data alone -/
def wData (w : WA) (f : List PyData → (PyData → Prop) → Prop) : WE := fun δ Φ => w δ fun svs => match allD svs with
  | some ds => f ds Φ
  | none => False
def wTup (w : WA) : WE := wData w fun ds Φ => ds.length ≤ sizeLine ∧ Φ (.tuple ds)
theorem det_tup (h : DAt K t w) : DEt K (tTup t) (wTup w) := by
  refine ⟨fun C M H σ δ Q Φ I hw q => h.run C M H σ δ _ _ I hw fun vs svs H1 x1 p1 r1 hw1 => ?_⟩
  cases e : allD svs with
  | none => rw [e] at hw1; exact hw1.elim
  | some ds =>
    rw [e] at hw1
    have r := r1.data e
    refine ⟨by rw [← r.length]; exact hw1.1, fun a ha => ?_⟩
    refine q _ _ _ (x1.trans (ExtP.new ha)) (p1.new ha) (.tup (SqT.of upd_same) (r.stays (Stays.of_same (same_new ha)))) hw1.2
theorem de_tup {x1 pos} (h : DA X es t w) : DE X (.Tuple es x1 pos) (tTup t) (wTup w) := ⟨pe_tup h.pe, det_tup h.dt⟩
def wLst (w : WA) : WF := fun δ Φ => w δ fun svs => match allD svs with
  | some ds => ds.length ≤ sizeLine ∧ Φ ds
  | none => False
theorem With.fresh {M : Addr → Prop} {H : Hp} {a : Addr} (h : H a = none) : ∀ b o, H b = some o → With M a b → M b := fun b o e z => by
  rcases z with z | z
  · exact z
  · rw [z, h] at e; cases e
theorem PenV.with {M : Addr → Prop} {H : Hp} {a : Addr} {o : HO} {p : Option Addr} (pv : PenV K M H p) (h : H a = none) : PenV K (With M a) (upd H a o) p := fun q z => by
  obtain ⟨m, g, s, b, ns, e, r, h1, h2⟩ := pv q z
  exact ⟨.inl m, g, s, b, ns, same_new h _ _ e, r.map (With.fresh h) (Stays.of_same (same_new h)), h1, h2⟩
theorem dft_lst (h : DAt K t w) : DFt K (tLst t) (wLst w) := by
  refine ⟨fun C M H σ δ Q Φ I hw q => h.run C M H σ δ _ _ I hw fun vs svs H1 x1 p1 r1 hw1 => ?_⟩
  cases e : allD svs with
  | none => rw [e] at hw1; exact hw1.elim
  | some ds =>
    rw [e] at hw1
    have r := r1.data e
    refine ⟨by rw [← r.length]; exact hw1.1, fun a ha => ?_⟩
    have ha0 : H a = none := by
      cases z : H a with
      | none => rfl
      | some o =>
        by_cases zp : C.p = some a
        · obtain ⟨_, g, s, b, ns, e2, _⟩ := p1 a zp
          rw [ha] at e2; cases e2
        · have e2 := x1 _ _ z zp
          rw [ha] at e2; cases e2
    exact q _ _ _ _ (x1.trans (ExtP.new ha)) ha0 upd_same (p1.with ha) (r.map (With.fresh ha) (Stays.of_same (same_new ha))) hw1.2
theorem df_lst {pos} (h : DA X es t w) : DF X (.List es pos) (tLst t) (wLst w) := ⟨pe_lst h.pe, dft_lst h.dt⟩
end
end DL
/-! expressions over data -/
namespace DL
open PySem PySem.Spec PyProof.Rows L2
section
variable {X : Cx} {K : PySem.W.Frag} {a b c : Expr} {ta tb tc : TE} {wa wb wc : WE} {pos : Pos}

/-! ### an operation on two values -/
abbrev W2 := PyData → PyData → (PyData → Prop) → Prop
def R2d (K : PySem.W.Frag) (r : R2) (f : W2) : Prop := ∀ M H x y d e Q Φ (p : Option Addr), PenV K M H p → (∀ q, M q → ∃ o, H q = some o) → Dr K M H x d → Dr K M H y e → f d e Φ →
  (∀ v d H', Same H H' → Dr K M H' v d → Φ d → Q v H') → r x y H Q
def wOp (f : W2) (wa wb : WE) : WE := fun δ Φ => wa δ fun d => wb δ fun e => f d e Φ
theorem det_op {r : R2} {f : W2} (hr : R2d K r f) (ha : DEt K ta wa) (hb : DEt K tb wb) : DEt K (tOp r ta tb) (wOp f wa wb) := by
  refine ⟨fun C M H σ δ Q Φ I hw q => ha.run C M H σ δ _ _ I hw fun x d H1 x1 p1 r1 w1 => ?_⟩
  have I1 := I.next x1 p1
  refine hb.run C M H1 σ δ _ _ I1 w1 fun y e H2 x2 p2 r2 w2 => ?_
  have I2 := I1.next x2 p2
  refine hr M H2 x y d e Q Φ C.p p2 I2.alive (r1.stays (x2.stays p1)) r2 w2 fun v g H3 sm r3 hf => ?_
  exact q v g H3 ((x1.trans x2).trans (ExtP.of_same sm)) (p2.stay sm) r3 hf
theorem R2d.or {r r' : R2} {f f' : W2} (h : R2d K r f) (h' : R2d K r' f') : R2d K (fun x y H Q => r x y H Q ∨ r' x y H Q) (fun d e Φ => f d e Φ ∨ f' d e Φ) :=
  fun M H x y d e Q Φ p pv al rx ry hf q => hf.elim (fun z => .inl (h M H x y d e Q Φ p pv al rx ry z q)) (fun z => .inr (h' M H x y d e Q Φ p pv al rx ry z q))
theorem R2d.imp {r : R2} {f f' : W2} (h : R2d K r f) (hi : ∀ d e Φ, f' d e Φ → f d e Φ) : R2d K r f' :=
  fun M H x y d e Q Φ p pv al rx ry hf q => h M H x y d e Q Φ p pv al rx ry (hi d e Φ hf) q
/-- two ints -/
def fI (C : Int → Int → Prop) (g : Int → Int → PyData) : W2 := fun d e Φ => match d, e with
  | .int i, .int j => C i j ∧ Φ (g i j)
  | _, _ => False
theorem fI_out {C : Int → Int → Prop} {g : Int → Int → PyData} {d e : PyData} {Φ : PyData → Prop} (h : fI C g d e Φ) : ∃ i j, d = .int i ∧ e = .int j ∧ C i j ∧ Φ (g i j) := by
  unfold fI at h
  split at h
  · exact ⟨_, _, rfl, rfl, h.1, h.2⟩
  · exact h.elim
theorem r2_rI {C : Int → Int → Prop} {g : Int → Int → V} {gd : Int → Int → PyData} (hg : ∀ M H i j, Dr K M H (g i j) (gd i j)) : R2d K (rI C g) (fI C gd) := by
  intro M H x y d e Q Φ p pv al rx ry hf q
  obtain ⟨i, j, rfl, rfl, hc, hp⟩ := fI_out hf
  cases rx
  cases ry
  exact ⟨i, j, rfl, rfl, hc, q _ _ H (Same.refl H) (hg M H i j) hp⟩
theorem r2_rI0 {g : Int → Int → V} {gd : Int → Int → PyData} (hg : ∀ M H i j, Dr K M H (g i j) (gd i j)) : R2d K (rI0 g) (fI (fun _ _ => True) gd) := by
  intro M H x y d e Q Φ p pv al rx ry hf q
  obtain ⟨i, j, rfl, rfl, hc, hp⟩ := fI_out hf
  cases rx
  cases ry
  exact ⟨i, j, rfl, rfl, q _ _ H (Same.refl H) (hg M H i j) hp⟩
/-- + of ints, texts, lists, tuples -/
def fAdd : W2 := fun d e Φ => match d, e with
  | .int i, .int j => Φ (.int (i + j))
  | .str x, .str y => x.length + y.length ≤ sizeLine ∧ Φ (.str (x ++ y))
  | .list xs, .list ys => xs.length + ys.length ≤ sizeLine ∧ Φ (.list (xs ++ ys))
  | .tuple xs, .tuple ys => xs.length + ys.length ≤ sizeLine ∧ Φ (.tuple (xs ++ ys))
  | _, _ => False
def rAddD (K : PySem.W.Frag) : R2 := fun x y H Q => (∃ i j, x = .int i ∧ y = .int j ∧ Q (.int (i + j)) H) ∨
  (∃ i j, x = .str i ∧ y = .str j ∧ i.length + j.length ≤ sizeLine ∧ Q (.str (i ++ j)) H) ∨ rCat x y H Q ∨ rCatA K x y H Q
theorem op_addD : OpR X (binaryOp .Add) (rAddD X.K) := op_add.or (op_add_str.or (op_cat.or op_catA))
theorem r2_add : R2d K (rAddD K) fAdd := by
  intro M H x y d e Q Φ p pv al rx ry hf q
  unfold fAdd at hf
  split at hf
  · cases rx; cases ry
    exact .inl ⟨_, _, rfl, rfl, q _ _ H (Same.refl H) (.int _) hf⟩
  · cases rx; cases ry
    exact .inr (.inl ⟨_, _, rfl, rfl, hf.1, q _ _ H (Same.refl H) (.str _) hf.2⟩)
  · cases rx with
    | lst n1 e1 r1 =>
    cases ry with
    | lst n2 e2 r2 =>
    have hl : ∀ a, H a = none → ¬ M a := fun a h m => by
      obtain ⟨o, z⟩ := al a m
      rw [h] at z; cases z
    refine .inr (.inr (.inl ⟨_, _, _, _, rfl, rfl, e1, e2, by rw [← r1.length, ← r2.length]; exact hf.1, fun a ha => ?_⟩))
    exact q _ _ _ (same_new ha) (.lst (hl a ha) upd_same ((r1.append r2).stays (Stays.of_same (same_new ha)))) hf.2
  · cases rx with
    | tup e1 r1 =>
    cases ry with
    | tup e2 r2 =>
    refine .inr (.inr (.inr ⟨_, _, _, _, rfl, rfl, e1, e2, by rw [← r1.length, ← r2.length]; exact hf.1, fun z => ?_, fun z1 z => ?_, fun z1 z2 a ha => ?_⟩))
    · subst z
      cases r1
      exact q _ _ H (Same.refl H) (.tup e2 r2) hf.2
    · subst z
      cases r2
      exact q _ _ H (Same.refl H) (.tup e1 r1) (by simpa using hf.2)
    · exact q _ _ _ (same_new ha) (.tup (SqT.of upd_same) ((r1.append r2).stays (Stays.of_same (same_new ha)))) hf.2
  · exact hf.elim
theorem de_add {K' : PySem.W.Frag} (ha : DE X a ta wa) (hb : DE X b tb wb) (hK : X.K = K' := by rfl) : DE X (.BinOp a .Add b pos) (tOp (rAddD K') ta tb) (wOp fAdd wa wb) := by
  subst hK
  exact ⟨pe_op op_addD ha.pe hb.pe, det_op r2_add ha.dt hb.dt⟩
theorem de_sub (ha : DE X a ta wa) (hb : DE X b tb wb) : DE X (.BinOp a .Sub b pos) (tOp (rI0 fun i j => .int (i - j)) ta tb) (wOp (fI (fun _ _ => True) fun i j => .int (i - j)) wa wb) :=
  ⟨pe_op op_sub ha.pe hb.pe, det_op (r2_rI0 fun _ _ _ _ => .int _) ha.dt hb.dt⟩
def CMulD (i j : Int) : Prop := CMul i j ∨ CMulW i j
theorem op_mulD : OpR X (binaryOp .Mult) (rI CMulD fun i j => .int (i * j)) := opI fun _ _ _ _ _ _ _ hc q => mul_int q (hc.elim CMul.ok CMulW.ok)
theorem de_mul (ha : DE X a ta wa) (hb : DE X b tb wb) : DE X (.BinOp a .Mult b pos) (tOp (rI CMulD fun i j => .int (i * j)) ta tb) (wOp (fI CMulD fun i j => .int (i * j)) wa wb) :=
  ⟨pe_op op_mulD ha.pe hb.pe, det_op (r2_rI fun _ _ _ _ => .int _) ha.dt hb.dt⟩
theorem de_mod (ha : DE X a ta wa) (hb : DE X b tb wb) : DE X (.BinOp a .Mod b pos) (tOp (rI (fun _ j => 0 < j) fun i j => .int (i % j)) ta tb) (wOp (fI (fun _ j => 0 < j) fun i j => .int (i % j)) wa wb) :=
  ⟨pe_op op_mod ha.pe hb.pe, det_op (r2_rI fun _ _ _ _ => .int _) ha.dt hb.dt⟩
theorem de_fdiv (ha : DE X a ta wa) (hb : DE X b tb wb) : DE X (.BinOp a .FloorDiv b pos) (tOp (rI CDivW fun i j => .int (i / j)) ta tb) (wOp (fI CDivW fun i j => .int (i / j)) wa wb) :=
  ⟨pe_op op_fdivW ha.pe hb.pe, det_op (r2_rI fun _ _ _ _ => .int _) ha.dt hb.dt⟩
theorem de_pow (ha : DE X a ta wa) (hb : DE X b tb wb) : DE X (.BinOp a .Pow b pos) (tOp (rI CPow fun i j => .int (i ^ j.toNat)) ta tb) (wOp (fI CPow fun i j => .int (i ^ j.toNat)) wa wb) :=
  ⟨pe_op op_pow ha.pe hb.pe, det_op (r2_rI fun _ _ _ _ => .int _) ha.dt hb.dt⟩
def wUn (f : PyData → (PyData → Prop) → Prop) (wa : WE) : WE := fun δ Φ => wa δ fun d => f d Φ
def asI (d : PyData) (k : Int → Prop) : Prop := match d with
  | .int i => k i
  | _ => False
theorem asI_out {d : PyData} {k : Int → Prop} (h : asI d k) : ∃ i, d = .int i ∧ k i := by
  unfold asI at h
  split at h
  · exact ⟨_, rfl, h⟩
  · exact h.elim
def asB (d : PyData) (k : Bool → Prop) : Prop := match d with
  | .bool i => k i
  | _ => False
theorem asB_out {d : PyData} {k : Bool → Prop} (h : asB d k) : ∃ i, d = .bool i ∧ k i := by
  unfold asB at h
  split at h
  · exact ⟨_, rfl, h⟩
  · exact h.elim
theorem de_neg (ha : DE X a ta wa) : DE X (.UnaryOp .USub a pos) (tUn (rU fun i => .int (-i)) ta) (wUn (fun d Φ => asI d fun i => Φ (.int (-i))) wa) := by
  refine ⟨pe_un un_neg ha.pe, ⟨fun C M H σ δ Q Φ I hw q => ha.dt.run C M H σ δ _ _ I hw fun x d H1 x1 p1 r1 w1 => ?_⟩⟩
  obtain ⟨i, rfl, hi⟩ := asI_out w1
  cases r1
  exact ⟨i, rfl, q _ _ H1 x1 p1 (.int _) hi⟩

/-! ### comparisons -/
def fCmp (g : Int → Int → Bool) : W2 := fI (fun _ _ => True) fun i j => .bool (g i j)
/-- ==, != : two texts; a tuple beside the empty one; any data -/
def fEqG (g : Bool → Bool) : W2 := fun d e Φ => match d, e with
  | .str i, .str j => Φ (.bool (g (decide (i = j))))
  | .tuple xs, .tuple [] => Φ (.bool (g xs.isEmpty))
  | d, e => SeqAt.shaped d = true ∧ SeqAt.shaped e = true ∧ Φ (.bool (g (PyData.eqv d e)))
def fEq : W2 := fEqG id
/-- != has no rule beside the empty tuple -/
def fNe : W2 := fun d e Φ => match d, e with
  | .str i, .str j => Φ (.bool (!decide (i = j)))
  | d, e => SeqAt.shaped d = true ∧ SeqAt.shaped e = true ∧ Φ (.bool (!PyData.eqv d e))
end
/-- == over what is read -/
def rDeep (K : PySem.W.Frag) (g : Bool → Bool) : R2 := fun x y H Q => ∃ M d e, Dr K M H x d ∧ Dr K M H y e ∧ SeqAt.shaped d = true ∧ SeqAt.shaped e = true ∧ Q (.bl (g (PyData.eqv d e))) H
def rStr (g : Bool → Bool) : R2 := fun x y H Q => ∃ i j, x = .str i ∧ y = .str j ∧ Q (.bl (g (decide (i = j)))) H
def rEmp (K : PySem.W.Frag) : R2 := fun x y H Q => ∃ a b xs, x = .ref a ∧ y = .ref b ∧ SqT K H a xs ∧ SqT K H b [] ∧ Q (.bl xs.isEmpty) H
def rEqR (K : PySem.W.Frag) : R2 := fun x y H Q => rStr id x y H Q ∨ (rDeep K id x y H Q ∨ rEmp K x y H Q)
def rNeR (K : PySem.W.Frag) : R2 := fun x y H Q => rStr (fun b => !b) x y H Q ∨ rDeep K (fun b => !b) x y H Q
section
variable {X : Cx} {K : PySem.W.Frag} {a b c : Expr} {ta tb tc : TE} {wa wb wc : WE} {pos : Pos}
theorem dec_strV {i j : Str} : decide (V.str i = V.str j) = decide (i = j) := by
  by_cases h : i = j
  · subst h; simp
  · rw [decide_eq_false h, decide_eq_false (fun z => h (V.str.inj z))]
theorem op_eqS : OpR X (compareOp .Eq) (rStr id) := by
  intro pins s σ H x y v u Q I rx ry h
  obtain ⟨i, j, rfl, rfl, q⟩ := h
  exact op_eq pins s σ H _ _ v u Q I rx ry ⟨rfl, by rw [dec_strV]; exact q⟩
theorem op_neS : OpR X (compareOp .NotEq) (rStr fun b => !b) := by
  intro pins s σ H x y v u Q I rx ry h
  obtain ⟨i, j, rfl, rfl, q⟩ := h
  exact op_ne pins s σ H _ _ v u Q I rx ry ⟨rfl, by rw [dec_strV]; exact q⟩
theorem op_eqDp (hu : X.A.units + 64 < cLine) : OpR X (compareOp .Eq) (rDeep X.K id) := by
  intro pins s σ H x y v u Q I rx ry h
  obtain ⟨M, d, e, hd, he, sd, se, q⟩ := h
  obtain ⟨as, r1, _⟩ := Dr.reads I hd rx
  obtain ⟨bs, r2, _⟩ := Dr.reads I he ry
  exact SeqAt.compareEq_shaped r1 r2 sd se hu ⟨.bl _, H, I, rfl, q⟩
theorem op_neDp (hu : X.A.units + 64 < cLine) : OpR X (compareOp .NotEq) (rDeep X.K fun b => !b) := by
  intro pins s σ H x y v u Q I rx ry h
  obtain ⟨M, d, e, hd, he, sd, se, q⟩ := h
  obtain ⟨as, r1, _⟩ := Dr.reads I hd rx
  obtain ⟨bs, r2, _⟩ := Dr.reads I he ry
  exact SeqAt.compareNe_shaped r1 r2 sd se hu ⟨.bl _, H, I, rfl, q⟩
theorem op_eqEmp (hu : X.A.units + 64 < cLine) : OpR X (compareOp .Eq) (rEmp X.K) := by
  intro pins s σ H x y v u Q I rx ry h
  obtain ⟨a, b, xs, rfl, rfl, ha, hb, q⟩ := h
  cases rx
  cases ry
  obtain ⟨its, r1, p1, _⟩ := I.tuple ha
  obtain ⟨its2, r2, p2, _⟩ := I.tuple hb
  cases r2
  refine SeqAt.eq_tupleAt (e := fun _ => true) (show s.heap.IsTuple a its.toArray from p1) (show s.heap.IsTuple b _ from p2) (by omega) (fun j h1 h2 => by simp at h2) ?_
  have e : ((List.range (min its.toArray.size ([] : List Value).toArray.size)).all (fun _ => true) && its.toArray.size == ([] : List Value).toArray.size) = xs.isEmpty := by
    cases r1 <;> simp
  rw [e]
  exact ⟨.bl _, H, I, rfl, q⟩
theorem op_eqR (hu : X.A.units + 64 < cLine) : OpR X (compareOp .Eq) (rEqR X.K) := op_eqS.or ((op_eqDp hu).or (op_eqEmp hu))
theorem op_neR (hu : X.A.units + 64 < cLine) : OpR X (compareOp .NotEq) (rNeR X.K) := op_neS.or (op_neDp hu)
theorem r2_eq : R2d K (rEqR K) fEq := by
  intro M H x y d e Q Φ p pv al rx ry hf q
  unfold fEq fEqG at hf
  split at hf
  · cases rx; cases ry
    exact .inl ⟨_, _, rfl, rfl, q _ _ H (Same.refl H) (.bl _) hf⟩
  · cases rx with
    | tup ha ra =>
    cases ry with
    | tup hb rb =>
    cases rb
    refine .inr (.inr ⟨_, _, _, rfl, rfl, ha, hb, q _ _ H (Same.refl H) (.bl _) ?_⟩)
    cases ra <;> exact hf
  · exact .inr (.inl ⟨M, d, e, rx, ry, hf.1, hf.2.1, q _ _ H (Same.refl H) (.bl _) hf.2.2⟩)
theorem r2_ne : R2d K (rNeR K) fNe := by
  intro M H x y d e Q Φ p pv al rx ry hf q
  unfold fNe at hf
  split at hf
  · cases rx; cases ry
    exact .inl ⟨_, _, rfl, rfl, q _ _ H (Same.refl H) (.bl _) hf⟩
  · exact .inr ⟨M, d, e, rx, ry, hf.1, hf.2.1, q _ _ H (Same.refl H) (.bl _) hf.2.2⟩
theorem de_eq {K' : PySem.W.Frag} (hu : X.A.units + 64 < cLine) (ha : DE X a ta wa) (hb : DE X b tb wb) (hK : X.K = K' := by rfl) : DE X (.Compare a [.Eq] [b] pos) (tOp (rEqR K') ta tb) (wOp fEq wa wb) := by
  subst hK
  exact ⟨pe_cmpR (op_eqR hu) ha.pe hb.pe (nomark _), det_op r2_eq ha.dt hb.dt⟩
theorem de_ne {K' : PySem.W.Frag} (hu : X.A.units + 64 < cLine) (ha : DE X a ta wa) (hb : DE X b tb wb) (hK : X.K = K' := by rfl) : DE X (.Compare a [.NotEq] [b] pos) (tOp (rNeR K') ta tb) (wOp fNe wa wb) := by
  subst hK
  exact ⟨pe_cmpR (op_neR hu) ha.pe hb.pe (nomark _), det_op r2_ne ha.dt hb.dt⟩
theorem de_lt (ha : DE X a ta wa) (hb : DE X b tb wb) : DE X (.Compare a [.Lt] [b] pos) (tOp (rI0 fun i j => .bl (decide (i < j))) ta tb) (wOp (fCmp fun i j => decide (i < j)) wa wb) :=
  ⟨pe_cmpR op_lt ha.pe hb.pe (nomark _), det_op (r2_rI0 fun _ _ _ _ => .bl _) ha.dt hb.dt⟩
theorem de_le (ha : DE X a ta wa) (hb : DE X b tb wb) : DE X (.Compare a [.LtE] [b] pos) (tOp (rI0 fun i j => .bl (decide (i ≤ j))) ta tb) (wOp (fCmp fun i j => decide (i ≤ j)) wa wb) :=
  ⟨pe_cmpR op_le ha.pe hb.pe (nomark _), det_op (r2_rI0 fun _ _ _ _ => .bl _) ha.dt hb.dt⟩
theorem de_gt (ha : DE X a ta wa) (hb : DE X b tb wb) : DE X (.Compare a [.Gt] [b] pos) (tOp (rI0 fun i j => .bl (decide (j < i))) ta tb) (wOp (fCmp fun i j => decide (j < i)) wa wb) :=
  ⟨pe_cmpR op_gt ha.pe hb.pe (nomark _), det_op (r2_rI0 fun _ _ _ _ => .bl _) ha.dt hb.dt⟩
theorem de_ge (ha : DE X a ta wa) (hb : DE X b tb wb) : DE X (.Compare a [.GtE] [b] pos) (tOp (rI0 fun i j => .bl (decide (j ≤ i))) ta tb) (wOp (fCmp fun i j => decide (j ≤ i)) wa wb) :=
  ⟨pe_cmpR op_ge ha.pe hb.pe (nomark _), det_op (r2_rI0 fun _ _ _ _ => .bl _) ha.dt hb.dt⟩
/-- is None, is not None -/
theorem Dr.non_iff {M : Addr → Prop} {H : Hp} {v : V} {d : PyData} (r : Dr K M H v d) : decide (v = .non) = match d with | .none => true | _ => false := by
  cases r <;> simp
def isNone : PyData → Bool
  | .none => true
  | _ => false
def fIs (g : PyData → Bool) : W2 := fun d e Φ => e = .none ∧ Φ (.bool (g d))
theorem de_isN (ha : DE X a ta wa) {j pos'} : DE X (.Compare a [.Is] [.Constant .none j pos'] pos) (tIsN ta) (wUn (fun d Φ => Φ (.bool (isNone d))) wa) := by
  refine ⟨pe_cmp (pc_isN ha.pe) rfl, ⟨fun C M H σ δ Q Φ I hw q => ha.dt.run C M H σ δ _ _ I hw fun x d H1 x1 p1 r1 w1 => ?_⟩⟩
  have e : decide (x = .non) = isNone d := by cases r1 <;> simp [isNone]
  rw [e]
  exact q _ _ H1 x1 p1 (.bl _) w1
theorem de_notN (ha : DE X a ta wa) {j pos'} : DE X (.Compare a [.IsNot] [.Constant .none j pos'] pos) (tNotN ta) (wUn (fun d Φ => Φ (.bool (!isNone d))) wa) := by
  refine ⟨pe_cmp (pc_notN ha.pe) rfl, ⟨fun C M H σ δ Q Φ I hw q => ha.dt.run C M H σ δ _ _ I hw fun x d H1 x1 p1 r1 w1 => ?_⟩⟩
  have e : decide (x = .non) = isNone d := by cases r1 <;> simp [isNone]
  rw [e]
  exact q _ _ H1 x1 p1 (.bl _) w1

/-! ### and, or, not; tests -/
theorem de_one {op} (ha : DE X a ta wa) : DE X (.BoolOp op [a] pos) ta wa := ⟨pe_one ha.pe, ha.dt⟩
def wAnd (wa wb : WE) : WE := fun δ Φ => wa δ fun d => asB d fun k => if k = true then wb δ Φ else Φ (.bool false)
def wOr (wa wb : WE) : WE := fun δ Φ => wa δ fun d => asB d fun k => if k = true then Φ (.bool true) else wb δ Φ
theorem de_and {rest : List Expr} (ha : DE X a ta wa) (hb : DE X (.BoolOp .And (b :: rest) pos) tb wb) : DE X (.BoolOp .And (a :: b :: rest) pos) (tAndV ta tb) (wAnd wa wb) := by
  refine ⟨pe_and ha.pe hb.pe, ⟨fun C M H σ δ Q Φ I hw q => ha.dt.run C M H σ δ _ _ I hw fun x d H1 x1 p1 r1 w1 => ?_⟩⟩
  obtain ⟨k, rfl, hk⟩ := asB_out w1
  cases r1
  refine ⟨k, rfl, ?_⟩
  cases k with
  | true => exact hb.dt.run C M H1 σ δ _ _ (I.next x1 p1) hk fun v d H2 x2 p2 r2 hf => q v d H2 (x1.trans x2) p2 r2 hf
  | false => exact q _ _ H1 x1 p1 (.bl false) hk
theorem de_or {rest : List Expr} (ha : DE X a ta wa) (hb : DE X (.BoolOp .Or (b :: rest) pos) tb wb) : DE X (.BoolOp .Or (a :: b :: rest) pos) (tOrV ta tb) (wOr wa wb) := by
  refine ⟨pe_or ha.pe hb.pe, ⟨fun C M H σ δ Q Φ I hw q => ha.dt.run C M H σ δ _ _ I hw fun x d H1 x1 p1 r1 w1 => ?_⟩⟩
  obtain ⟨k, rfl, hk⟩ := asB_out w1
  cases r1
  refine ⟨k, rfl, ?_⟩
  cases k with
  | true => exact q _ _ H1 x1 p1 (.bl true) hk
  | false => exact hb.dt.run C M H1 σ δ _ _ (I.next x1 p1) hk fun v d H2 x2 p2 r2 hf => q v d H2 (x1.trans x2) p2 r2 hf
theorem de_not (ha : DE X a ta wa) : DE X (.UnaryOp .Not a pos) (tNotV ta) (wUn (fun d Φ => asB d fun k => Φ (.bool (!k))) wa) := by
  refine ⟨pe_not ha.pe, ⟨fun C M H σ δ Q Φ I hw q => ha.dt.run C M H σ δ _ _ I hw fun x d H1 x1 p1 r1 w1 => ?_⟩⟩
  obtain ⟨k, rfl, hk⟩ := asB_out w1
  cases r1
  exact ⟨k, rfl, q _ _ H1 x1 p1 (.bl _) hk⟩
/-- a bool value as a test -/
def wB (wa : WE) : WT := fun δ Φ => wa δ fun d => asB d Φ
theorem dtt_b (ha : DEt K ta wa) : DTt K (tB ta) (wB wa) := by
  refine ⟨fun C M H σ δ Q Φ I hw q => ha.run C M H σ δ _ _ I hw fun x d H1 x1 p1 r1 w1 => ?_⟩
  obtain ⟨k, rfl, hk⟩ := asB_out w1
  cases r1
  exact ⟨k, rfl, q k H1 x1 p1 hk⟩
/-- a comparison of two, as a test -/
theorem dt_cmp {op : CmpOp} {r : R2} {f : W2} (ho : OpR X (compareOp op) r) (hr : R2d X.K r f) (ha : DE X a ta wa) (hb : DE X b tb wb) (hm : behindInMarks op b = false) :
    DT X (.Compare a [op] [b] pos) (tTest (tOp r ta tb)) (wB (wOp f wa wb)) := ⟨pt_cmpR ho ha.pe hb.pe hm, dtt_b (det_op hr ha.dt hb.dt)⟩
theorem dt_eq {K' : PySem.W.Frag} (hu : X.A.units + 64 < cLine) (ha : DE X a ta wa) (hb : DE X b tb wb) (hK : X.K = K' := by rfl) : DT X (.Compare a [.Eq] [b] pos) (tTest (tOp (rEqR K') ta tb)) (wB (wOp fEq wa wb)) := by
  subst hK
  exact dt_cmp (op_eqR hu) r2_eq ha hb (nomark _)
theorem dt_ne {K' : PySem.W.Frag} (hu : X.A.units + 64 < cLine) (ha : DE X a ta wa) (hb : DE X b tb wb) (hK : X.K = K' := by rfl) : DT X (.Compare a [.NotEq] [b] pos) (tTest (tOp (rNeR K') ta tb)) (wB (wOp fNe wa wb)) := by
  subst hK
  exact dt_cmp (op_neR hu) r2_ne ha hb (nomark _)
theorem dt_lt (ha : DE X a ta wa) (hb : DE X b tb wb) : DT X (.Compare a [.Lt] [b] pos) (tTest (tOp (rI0 fun i j => .bl (decide (i < j))) ta tb)) (wB (wOp (fCmp fun i j => decide (i < j)) wa wb)) := dt_cmp op_lt (r2_rI0 fun _ _ _ _ => .bl _) ha hb (nomark _)
theorem dt_le (ha : DE X a ta wa) (hb : DE X b tb wb) : DT X (.Compare a [.LtE] [b] pos) (tTest (tOp (rI0 fun i j => .bl (decide (i ≤ j))) ta tb)) (wB (wOp (fCmp fun i j => decide (i ≤ j)) wa wb)) := dt_cmp op_le (r2_rI0 fun _ _ _ _ => .bl _) ha hb (nomark _)
theorem dt_gt (ha : DE X a ta wa) (hb : DE X b tb wb) : DT X (.Compare a [.Gt] [b] pos) (tTest (tOp (rI0 fun i j => .bl (decide (j < i))) ta tb)) (wB (wOp (fCmp fun i j => decide (j < i)) wa wb)) := dt_cmp op_gt (r2_rI0 fun _ _ _ _ => .bl _) ha hb (nomark _)
theorem dt_ge (ha : DE X a ta wa) (hb : DE X b tb wb) : DT X (.Compare a [.GtE] [b] pos) (tTest (tOp (rI0 fun i j => .bl (decide (j ≤ i))) ta tb)) (wB (wOp (fCmp fun i j => decide (j ≤ i)) wa wb)) := dt_cmp op_ge (r2_rI0 fun _ _ _ _ => .bl _) ha hb (nomark _)
theorem dt_val (ha : DE X a ta wa) (he : ∀ whole, isTrue a X.env whole = (do let v ← whole; standAt a.pos; holding [v] (truthy v)) := by intro _; rfl) : DT X a (tB ta) (wB wa) := ⟨pt_val ha.pe he, dtt_b ha.dt⟩
/-- truth of data -/
def truD : PyData → Option Bool
  | .none => some false
  | .bool b => some b
  | .int i => some (i != 0)
  | .list xs => some (!xs.isEmpty)
  | .tuple xs => some (!xs.isEmpty)
  | _ => none
def wTru (wa : WE) : WT := fun δ Φ => wa δ fun d => match truD d with
  | some k => Φ k
  | none => False
theorem dt_tru {K' : PySem.W.Frag} (ha : DE X a ta wa) (he : ∀ whole, isTrue a X.env whole = (do let v ← whole; standAt a.pos; holding [v] (truthy v)) := by intro _; rfl) (hK : X.K = K' := by rfl) :
    DT X a (fun σ H Q => ta σ H fun x H1 => ∃ k, TruV K' x H1 k ∧ Q k H1) (wTru wa) := by
  subst hK
  refine ⟨pt_truth ha.pe he, ⟨fun C M H σ δ Q Φ I hw q => ha.dt.run C M H σ δ _ _ I hw fun x d H1 x1 p1 r1 w1 => ?_⟩⟩
  have emp : ∀ {xs : List V} {ds : List PyData}, DrA X.K M H1 xs ds → xs.isEmpty = ds.isEmpty := fun r => by cases r <;> rfl
  cases r1 with
  | non => exact ⟨_, rfl, q _ H1 x1 p1 w1⟩
  | bl b => exact ⟨_, rfl, q _ H1 x1 p1 w1⟩
  | int i => exact ⟨_, rfl, q _ H1 x1 p1 w1⟩
  | str x => exact w1.elim
  | lst n e r => exact ⟨_, .inl ⟨_, SqL.of e, by rw [emp r]⟩, q _ H1 x1 p1 w1⟩
  | tup e r => exact ⟨_, .inr (.inl ⟨_, e, by rw [emp r]⟩), q _ H1 x1 p1 w1⟩
  | dic n e r => exact w1.elim
def wAndT (wa wb : WT) : WT := fun δ Φ => wa δ fun k => if k = true then wb δ Φ else Φ false
def wOrT (wa wb : WT) : WT := fun δ Φ => wa δ fun k => if k = true then Φ true else wb δ Φ
def wNotT (wa : WT) : WT := fun δ Φ => wa δ fun k => Φ (!k)
variable {tA tB' : TT} {wA wB' : WT} {rest : List Expr}
theorem dw_and1 (ha : DT X a tA wA) : DW X (.BoolOp .And [a] pos) tA wA := ⟨pw_and1 ha.pe, ha.dt⟩
theorem dw_or1 (ha : DT X a tA wA) : DW X (.BoolOp .Or [a] pos) tA wA := ⟨pw_or1 ha.pe, ha.dt⟩
theorem dw_and (ha : DT X a tA wA) (hb : DW X (.BoolOp .And (b :: rest) pos) tB' wB') : DW X (.BoolOp .And (a :: b :: rest) pos) (tAnd tA tB') (wAndT wA wB') := by
  refine ⟨pw_and ha.pe hb.pe, ⟨fun C M H σ δ Q Φ I hw q => ha.dt.run C M H σ δ _ _ I hw fun k H1 x1 p1 w1 => ?_⟩⟩
  cases k with
  | true => exact hb.dt.run C M H1 σ δ _ _ (I.next x1 p1) w1 fun k H2 x2 p2 hf => q k H2 (x1.trans x2) p2 hf
  | false => exact q false H1 x1 p1 w1
theorem dw_or (ha : DT X a tA wA) (hb : DW X (.BoolOp .Or (b :: rest) pos) tB' wB') : DW X (.BoolOp .Or (a :: b :: rest) pos) (tOr tA tB') (wOrT wA wB') := by
  refine ⟨pw_or ha.pe hb.pe, ⟨fun C M H σ δ Q Φ I hw q => ha.dt.run C M H σ δ _ _ I hw fun k H1 x1 p1 w1 => ?_⟩⟩
  cases k with
  | true => exact q true H1 x1 p1 w1
  | false => exact hb.dt.run C M H1 σ δ _ _ (I.next x1 p1) w1 fun k H2 x2 p2 hf => q k H2 (x1.trans x2) p2 hf
theorem DW.dt' (h : DW X a tA wA) : DT X a tA wA := ⟨h.pe.pt, h.dt⟩
theorem dt_not (ha : DT X a tA wA) : DT X (.UnaryOp .Not a pos) (tNot tA) (wNotT wA) :=
  ⟨pt_not ha.pe, ⟨fun C M H σ δ Q Φ I hw q => ha.dt.run C M H σ δ _ _ I hw fun k H1 x1 p1 w1 => q _ H1 x1 p1 w1⟩⟩
def wIf (wA : WT) (wa wb : WE) : WE := fun δ Φ => wA δ fun k => if k = true then wa δ Φ else wb δ Φ
theorem de_if (hc : DT X c tA wA) (ha : DE X a ta wa) (hb : DE X b tb wb) : DE X (.IfExp c a b pos) (tIf tA ta tb) (wIf wA wa wb) := by
  refine ⟨pe_ifExp hc.pe ha.pe hb.pe, ⟨fun C M H σ δ Q Φ I hw q => hc.dt.run C M H σ δ _ _ I hw fun k H1 x1 p1 w1 => ?_⟩⟩
  cases k with
  | true => exact ha.dt.run C M H1 σ δ _ _ (I.next x1 p1) w1 fun v d H2 x2 p2 r2 hf => q v d H2 (x1.trans x2) p2 r2 hf
  | false => exact hb.dt.run C M H1 σ δ _ _ (I.next x1 p1) w1 fun v d H2 x2 p2 r2 hf => q v d H2 (x1.trans x2) p2 r2 hf
/-- a < b < c of ints -/
def wChain (g g' : Int → Int → Bool) (wa wb wc : WE) : WE := fun δ Φ => wa δ fun d => wb δ fun e => asI d fun i => asI e fun j => if g i j = true then wc δ fun f => asI f fun k => Φ (.bool (g' j k)) else Φ (.bool false)
theorem det_chain {g g' : Int → Int → Bool} (ha : DEt K ta wa) (hb : DEt K tb wb) (hc : DEt K tc wc) :
    DEt K (tChain (rI0 fun i j => .bl (g i j)) (rI0 fun i j => .bl (g' i j)) ta tb tc) (wChain g g' wa wb wc) := by
  refine ⟨fun C M H σ δ Q Φ I hw q => ha.run C M H σ δ _ _ I hw fun x d H1 x1 p1 r1 w1 => ?_⟩
  refine hb.run C M H1 σ δ _ _ (I.next x1 p1) w1 fun y e H2 x2 p2 r2 w2 => ?_
  obtain ⟨i, rfl, w3⟩ := asI_out w2
  obtain ⟨j, rfl, w4⟩ := asI_out w3
  cases r1; cases r2
  refine ⟨i, j, rfl, rfl, _, rfl, ?_⟩
  cases hg : g i j with
  | true =>
    rw [hg] at w4
    refine hc.run C M H2 σ δ _ _ ((I.next x1 p1).next x2 p2) w4 fun z f H3 x3 p3 r3 w5 => ?_
    obtain ⟨k, rfl, w6⟩ := asI_out w5
    cases r3
    exact ⟨j, k, rfl, rfl, q _ _ H3 ((x1.trans x2).trans x3) p3 (.bl _) w6⟩
  | false =>
    rw [hg] at w4
    exact q _ _ H2 (x1.trans x2) p2 (.bl _) w4
theorem de_lele (ha : DE X a ta wa) (hb : DE X b tb wb) (hc : DE X c tc wc) (hm : lastMarks [.LtE, .LtE] [b, c] = false := by rfl) : DE X (.Compare a [.LtE, .LtE] [b, c] pos) (tChain (rI0 fun i j => .bl (decide (i ≤ j))) (rI0 fun i j => .bl (decide (i ≤ j))) ta tb tc)
    (wChain (fun i j => decide (i ≤ j)) (fun i j => decide (i ≤ j)) wa wb wc) := ⟨pe_chain op_le op_le ha.pe hb.pe hc.pe (hm := hm), det_chain ha.dt hb.dt hc.dt⟩
end
end DL
/-! statements, targets, what is walked, comprehensions, calls, over data -/
namespace DL
open PySem PySem.Spec PyProof.Rows L2

/-! ### slots that change -/
section
variable {K : PySem.W.Frag} {C : Ct} {M M' : Addr → Prop} {H H' : Hp} {σ : Sl} {δ : Dl}
theorem sAt_set {σ : Sl} {i j : Nat} {v : V} (hi : i < σ.length) : sAt (σ.set i (some v)) j = if i = j then some v else sAt σ j := by
  unfold sAt
  by_cases h : i = j
  · subst h; rw [List.getElem?_set_self hi, if_pos rfl]; rfl
  · rw [List.getElem?_set_ne h, if_neg h]
theorem dset {δ : Dl} {i j : Nat} {s t : SV} (h : (δ.set i s)[j]? = some t) : (i = j ∧ t = s) ∨ (i ≠ j ∧ δ[j]? = some t) := by
  by_cases e : i = j
  · subst e
    by_cases hi : i < δ.length
    · rw [List.getElem?_set_self hi] at h
      exact .inl ⟨rfl, (Option.some.inj h).symm⟩
    · rw [List.getElem?_eq_none (by simpa using hi)] at h
      cases h
  · rw [List.getElem?_set_ne e] at h
    exact .inr ⟨e, h⟩
/-- a slot gets data (or a known value), or is forgotten -/
theorem Ok.put (I : Ok K C M H σ δ) {i : Nat} {v : V} {sv : SV} (hi : i < σ.length) (h : SlotOk K C M H (some v) sv) (no : ∀ ds, sv ≠ .own ds) : Ok K C M H (σ.set i (some v)) (δ.set i sv) := by
  refine ⟨by rw [List.length_set, List.length_set]; exact I.len, fun j t e => ?_, fun j k a ds es e1 e2 s1 s2 => ?_, I.ext, I.sub, I.alive, I.pen, I.pH0, I.c0⟩
  · rw [sAt_set hi]
    rcases dset e with ⟨rfl, rfl⟩ | ⟨n, e⟩
    · rw [if_pos rfl]; exact h
    · rw [if_neg n]; exact I.slot j t e
  · rcases dset e1 with ⟨rfl, z1⟩ | ⟨n1, e1⟩
    · exact absurd z1.symm (no ds)
    · rcases dset e2 with ⟨rfl, z2⟩ | ⟨n2, e2⟩
      · exact absurd z2.symm (no es)
      · rw [sAt_set hi, if_neg n1] at s1
        rw [sAt_set hi, if_neg n2] at s2
        exact I.dist j k a ds es e1 e2 s1 s2
/-- a slot is forgotten, whatever it holds -/
theorem Ok.forget (I : Ok K C M H σ δ) {i : Nat} (o : Option V) : Ok K C M H (σ.set i o) (δ.set i .un) := by
  have keep : ∀ j, i ≠ j → sAt (σ.set i o) j = sAt σ j := fun j n => by
    unfold sAt
    rw [List.getElem?_set_ne n]
  refine ⟨by rw [List.length_set, List.length_set]; exact I.len, fun j t e => ?_, fun j k a ds es e1 e2 s1 s2 => ?_, I.ext, I.sub, I.alive, I.pen, I.pH0, I.c0⟩
  · rcases dset e with ⟨rfl, rfl⟩ | ⟨n, e⟩
    · trivial
    · rw [keep j n]; exact I.slot j t e
  · rcases dset e1 with ⟨rfl, z1⟩ | ⟨n1, e1⟩
    · cases z1
    · rcases dset e2 with ⟨rfl, z2⟩ | ⟨n2, e2⟩
      · cases z2
      · rw [keep j n1] at s1
        rw [keep k n2] at s2
        exact I.dist j k a ds es e1 e2 s1 s2
/-- a new list of one's own -/
theorem Ok.putOwn (I : Ok K C M H σ δ) {i : Nat} {a : Addr} {xs : List V} {ds : List PyData} (hi : i < σ.length) (ha : H a = none) (hx : ExtP C.p H H') (ha' : H' a = some (.lst xs))
    (pv : PenV K (With M a) H' C.p) (r : DrA K (With M a) H' xs ds) : Ok K C (With M a) H' (σ.set i (some (.ref a))) (δ.set i (.own ds)) := by
  have st : Stays M H H' := hx.stays I.pen
  have c0 : C.H0 a = none := I.fresh0 ha
  have old : ∀ j t, δ[j]? = some t → SlotOk K C (With M a) H' (sAt σ j) t := fun j t e => by
    have h := I.slot j t e
    cases t with
    | un => trivial
    | d x => obtain ⟨v, e1, r1⟩ := h; exact ⟨v, e1, r1.map (With.fresh ha) st⟩
    | pen => exact h
    | own es =>
      obtain ⟨b, ys, e1, m, h0, hb, r1⟩ := h
      refine ⟨b, ys, e1, .inl m, h0, hx _ _ hb fun z => ?_, r1.map (With.fresh ha) st⟩
      obtain ⟨o, e⟩ := I.pH0 _ z
      rw [h0] at e; cases e
    | raw v => exact h
    | lenL n => exact h
    | kd P w ps => obtain ⟨b, xs, e1, n1, h1, r1⟩ := h; exact ⟨b, xs, e1, fun z => z.elim n1 (fun z => by rw [z, ha] at h1; cases h1), st _ _ h1 fun _ => n1, r1.map (With.fresh ha) st⟩
    | ownD kd =>
      obtain ⟨b, kvs, e1, m, h0, hb, r1⟩ := h
      refine ⟨b, kvs, e1, .inl m, h0, hx _ _ hb fun z => ?_, r1.map (With.fresh ha) st⟩
      obtain ⟨o, e⟩ := I.pH0 _ z
      rw [h0] at e; cases e
  have apart : ∀ j es, δ[j]? = some (.own es) → sAt σ j ≠ some (.ref a) := fun j es e z => by
    obtain ⟨b, ys, e1, m, h0, hb, r1⟩ := I.slot j _ e
    rw [z] at e1
    cases e1
    rw [ha] at hb; cases hb
  refine ⟨by rw [List.length_set, List.length_set]; exact I.len, fun j t e => ?_, fun j k b es fs e1 e2 s1 s2 => ?_, I.ext.trans hx, fun b m => .inl (I.sub b m), fun b m => ?_, pv, I.pH0, I.c0⟩
  · rw [sAt_set hi]
    rcases dset e with ⟨rfl, rfl⟩ | ⟨n, e⟩
    · rw [if_pos rfl]; exact ⟨a, xs, rfl, .inr rfl, c0, ha', r⟩
    · rw [if_neg n]; exact old j t e
  · rw [sAt_set hi] at s1 s2
    rcases dset e1 with ⟨rfl, _⟩ | ⟨n1, e1⟩
    · rcases dset e2 with ⟨rfl, _⟩ | ⟨n2, e2⟩
      · rfl
      · rw [if_pos rfl] at s1
        rw [if_neg n2] at s2
        cases s1
        exact absurd s2 (apart k fs e2)
    · rcases dset e2 with ⟨rfl, _⟩ | ⟨n2, e2⟩
      · rw [if_pos rfl] at s2
        rw [if_neg n1] at s1
        cases s2
        exact absurd s1 (apart j es e1)
      · rw [if_neg n1] at s1
        rw [if_neg n2] at s2
        exact I.dist j k b es fs e1 e2 s1 s2
  · rcases m with m | rfl
    · obtain ⟨o, e⟩ := I.alive b m
      by_cases z : C.p = some b
      · obtain ⟨_, g, s, q, ns, e2, _⟩ := pv b z
        exact ⟨_, e2⟩
      · exact ⟨o, hx _ _ e z⟩
    · exact ⟨_, ha'⟩
/-- a list of one's own in slot i is changed -/
theorem Ok.write (I : Ok K C M H σ δ) {i : Nat} {a : Addr} {xs ys : List V} {ds es : List PyData} (hd : δ[i]? = some (.own ds)) (hs : sAt σ i = some (.ref a)) (h0 : C.H0 a = none) (m : M a) (ha : H a = some (.lst xs)) (r : DrA K M H ys es) :
    Ok K C M (upd H a (.lst ys)) σ (δ.set i (.own es)) ∧ Tr K M H M (upd H a (.lst ys)) := by
  have st : Stays M H (upd H a (.lst ys)) := fun b o e n => by
    by_cases z : b = a
    · subst z
      rw [ha] at e; cases e
      exact absurd m (n rfl)
    · rw [upd_ne z]; exact e
  have np : C.p ≠ some a := fun z => by
    obtain ⟨o, e⟩ := I.pH0 _ z
    rw [h0] at e; cases e
  refine ⟨⟨by rw [List.length_set]; exact I.len, fun j t e => ?_, fun j k b e1' e2' e1 e2 s1 s2 => ?_, fun b o e n => ?_, I.sub, fun b mb => ?_, fun q z => ?_, I.pH0, I.c0⟩, fun v d r => r.stays st⟩
  · rcases dset e with ⟨rfl, rfl⟩ | ⟨n, e⟩
    · exact ⟨a, ys, hs, m, h0, upd_same, r.stays st⟩
    · have h := I.slot j t e
      cases t with
      | un => trivial
      | d x => obtain ⟨v, e1, r1⟩ := h; exact ⟨v, e1, r1.stays st⟩
      | pen => exact h
      | own fs =>
        obtain ⟨b, zs, e1, mb, hb0, hb, r1⟩ := h
        have ne : b ≠ a := fun z => by
          subst z
          exact n (I.dist i j b ds fs hd e hs e1)
        exact ⟨b, zs, e1, mb, hb0, by rw [upd_ne ne]; exact hb, r1.stays st⟩
      | raw v => exact h
      | lenL n => exact h
      | kd P w ps => obtain ⟨b, xs, e1, n1, h1, r1⟩ := h; exact ⟨b, xs, e1, n1, st _ _ h1 fun _ => n1, r1.stays st⟩
      | ownD kd =>
        obtain ⟨b, kvs, e1, mb, hb0, hb, r1⟩ := h
        have ne : b ≠ a := fun z => by
          subst z
          rw [ha] at hb
          cases hb
        exact ⟨b, kvs, e1, mb, hb0, by rw [upd_ne ne]; exact hb, r1.stays st⟩
  · have g1 : ∃ fs, δ[j]? = some (.own fs) := by
      rcases dset e1 with ⟨rfl, _⟩ | ⟨_, e1⟩
      · exact ⟨_, hd⟩
      · exact ⟨_, e1⟩
    have g2 : ∃ fs, δ[k]? = some (.own fs) := by
      rcases dset e2 with ⟨rfl, _⟩ | ⟨_, e2⟩
      · exact ⟨_, hd⟩
      · exact ⟨_, e2⟩
    obtain ⟨f1, g1⟩ := g1
    obtain ⟨f2, g2⟩ := g2
    exact I.dist j k b f1 f2 g1 g2 s1 s2
  · have ne : b ≠ a := fun z => by
      subst z
      rw [h0] at e; cases e
    rw [upd_ne ne]
    exact I.ext b o e n
  · by_cases z : b = a
    · subst z; exact ⟨_, upd_same⟩
    · obtain ⟨o, e⟩ := I.alive b mb
      exact ⟨o, by rw [upd_ne z]; exact e⟩
  · obtain ⟨mq, g, s, b, ns, e, rg, h1, h2⟩ := I.pen q z
    have ne : q ≠ a := fun y => np (by rw [← y]; exact z)
    exact ⟨mq, g, s, b, ns, by rw [upd_ne ne]; exact e, rg.stays st, h1, h2⟩
/-- a list of one's own is given up: it is data from now on -/
def frz (i : Nat) (δ : Dl) : Dl := match δ[i]? with
  | some (.own ds) => δ.set i (.d (.list ds))
  | _ => δ
theorem Ok.freeze (I : Ok K C M H σ δ) (i : Nat) : ∃ M', Ok K C M' H σ (frz i δ) ∧ Tr K M H M' H := by
  unfold frz
  split
  · rename_i ds hd
    obtain ⟨a, xs, e1, m, h0, ha, r⟩ := I.slot i _ hd
    have np : C.p ≠ some a := fun z => by
      obtain ⟨o, e⟩ := I.pH0 _ z
      rw [h0] at e; cases e
    have ls : ∀ b, (M b ∧ b ≠ a) → M b := fun b z => z.1
    refine ⟨fun b => M b ∧ b ≠ a, ⟨by rw [List.length_set]; exact I.len, fun j t e => ?_, fun j k b e1' e2' f1 f2 s1 s2 => ?_, I.ext, fun b mb => ⟨I.sub b mb, fun z => ?_⟩, fun b mb => I.alive b mb.1, fun q z => ?_, I.pH0, I.c0⟩, fun v d r => r.less ls⟩
    · rcases dset e with ⟨rfl, rfl⟩ | ⟨n, e⟩
      · exact ⟨.ref a, e1, .lst (fun z => z.2 rfl) ha (r.less ls)⟩
      · have h := I.slot j t e
        cases t with
        | un => trivial
        | d x => obtain ⟨v, e1, r1⟩ := h; exact ⟨v, e1, r1.less ls⟩
        | pen => exact h
        | own fs =>
          obtain ⟨b, zs, e2, mb, hb0, hb, r1⟩ := h
          exact ⟨b, zs, e2, ⟨mb, fun z => by subst z; exact n (I.dist i j b ds fs hd e e1 e2)⟩, hb0, hb, r1.less ls⟩
        | raw v => exact h
        | lenL n => exact h
        | kd P w ps => obtain ⟨b, xs, e1, n1, h1, r1⟩ := h; exact ⟨b, xs, e1, fun z => n1 z.1, h1, r1.less ls⟩
        | ownD kd =>
          obtain ⟨b, kvs, e2, mb, hb0, hb, r1⟩ := h
          exact ⟨b, kvs, e2, ⟨mb, fun z => by subst z; rw [ha] at hb; cases hb⟩, hb0, hb, r1.less ls⟩
    · rcases dset f1 with ⟨_, z⟩ | ⟨_, f1⟩
      · cases z
      · rcases dset f2 with ⟨_, z⟩ | ⟨_, f2⟩
        · cases z
        · exact I.dist j k b _ _ f1 f2 s1 s2
    · obtain ⟨o, q⟩ := I.c0 b mb
      rw [z, h0] at q; cases q
    · obtain ⟨mq, g, s, b, ns, e, rg, h1, h2⟩ := I.pen q z
      exact ⟨⟨mq, fun y => np (by rw [← y]; exact z)⟩, g, s, b, ns, e, rg.less ls, h1, h2⟩
  · exact ⟨M, I, Tr.refl⟩
end
end DL
/-! statements over data -/
namespace DL
open PySem PySem.Spec PyProof.Rows L2

section
variable {K : PySem.W.Frag} {C : Ct} {M M' : Addr → Prop} {H H' : Hp} {σ : Sl} {δ : Dl}
theorem Ok.put' (I : Ok K C M H σ δ) {i : Nat} {v : V} {sv : SV} (h : SlotOk K C M H (some v) sv) (no : ∀ ds, sv ≠ .own ds) : Ok K C M H (σ.set i (some v)) (δ.set i sv) := by
  by_cases hi : i < σ.length
  · exact I.put hi h no
  · rw [List.set_eq_of_length_le (by omega), List.set_eq_of_length_le (by rw [I.len]; omega)]
    exact I
theorem Ok.putD (I : Ok K C M H σ δ) {i : Nat} {v : V} {d : PyData} (r : Dr K M H v d) : Ok K C M H (σ.set i (some v)) (δ.set i (.d d)) :=
  I.put' (sv := .d d) ⟨v, rfl, r⟩ fun _ z => nomatch z
theorem Cn.move {C : Ct} {M1 : Addr → Prop} {H1 : Hp} {Φ : DP} {D : Ends} (c : Cn K C M H Φ D) (t : Tr K M H M1 H1) : Cn K C M1 H1 Φ D :=
  ⟨fun _ _ _ _ i t2 => c.nx _ _ _ _ i (t.trans t2), fun _ _ _ _ i t2 => c.bk _ _ _ _ i (t.trans t2), fun _ _ _ _ i t2 => c.ct _ _ _ _ i (t.trans t2), fun _ _ _ _ _ _ i t2 => c.rt _ _ _ _ _ _ i (t.trans t2)⟩
end

/-! ### targets -/
abbrev WG := PyData → Dl → (Dl → Prop) → Prop
abbrev WGs := List PyData → Dl → (Dl → Prop) → Prop
/-- no new lists of one's own -/
def OwnLe (σ : Sl) (δ : Dl) (σ' : Sl) (δ' : Dl) : Prop := ∀ i ds, δ'[i]? = some (.own ds) → δ[i]? = some (.own ds) ∧ sAt σ' i = sAt σ i
theorem OwnLe.refl {σ : Sl} {δ : Dl} : OwnLe σ δ σ δ := fun _ _ e => ⟨e, rfl⟩
theorem OwnLe.trans {σ σ1 σ2 : Sl} {δ δ1 δ2 : Dl} (h : OwnLe σ δ σ1 δ1) (h' : OwnLe σ1 δ1 σ2 δ2) : OwnLe σ δ σ2 δ2 := fun i ds e =>
  let ⟨e1, s1⟩ := h' i ds e
  let ⟨e2, s2⟩ := h i ds e1
  ⟨e2, s1.trans s2⟩
theorem OwnLe.set {σ : Sl} {δ : Dl} {i : Nat} {o : Option V} {sv : SV} (no : ∀ ds, sv ≠ .own ds) : OwnLe σ δ (σ.set i o) (δ.set i sv) := fun j ds e => by
  rcases dset e with ⟨_, z⟩ | ⟨n, e⟩
  · exact absurd z.symm (no ds)
  · exact ⟨e, by unfold sAt; rw [List.getElem?_set_ne n]⟩
structure DGt (K : PySem.W.Frag) (g : TG) (w : WG) (is : List Nat) : Prop where
  run : ∀ C M H σ δ v d Q Ψ, Ok K C M H σ δ → Dr K M H v d → w d δ Ψ →
    (∀ σ' δ', Ok K C M H σ' δ' → (∀ vs : List Nat, (∀ i ∈ is, i ∈ vs) → wipe σ' vs = wipe σ vs) → OwnLe σ δ σ' δ' → Ψ δ' → Q σ' H) → g v σ H Q
structure DGts (K : PySem.W.Frag) (g : TGs) (w : WGs) (is : List Nat) : Prop where
  run : ∀ C M H σ δ v d Q Ψ, Ok K C M H σ δ → DrA K M H v d → w d δ Ψ →
    (∀ σ' δ', Ok K C M H σ' δ' → (∀ vs : List Nat, (∀ i ∈ is, i ∈ vs) → wipe σ' vs = wipe σ vs) → OwnLe σ δ σ' δ' → Ψ δ' → Q σ' H) → g v σ H Q
structure DG (X : Cx) (tg : Expr) (g : TG) (w : WG) (is : List Nat) : Prop where
  pe : PG X tg g
  dt : DGt X.K g w is
structure DGs (X : Cx) (tg : List Expr) (g : TGs) (w : WGs) (is : List Nat) : Prop where
  pe : PGs X tg g
  dt : DGts X.K g w is
section
variable {X : Cx} {K : PySem.W.Frag}
theorem wipe_set_in {σ : Sl} {i : Nat} {o : Option V} : ∀ {vs : List Nat}, i ∈ vs → wipe (σ.set i o) vs = wipe σ vs
  | [], h => by simp at h
  | v :: vs, h => by
    show (wipe (σ.set i o) vs).set v none = (wipe σ vs).set v none
    by_cases hi : i ∈ vs
    · rw [wipe_set_in hi]
    · have e : i = v := by
        rcases List.mem_cons.mp h with e | e
        · exact e
        · exact absurd e hi
      subst e
      apply List.ext_getElem?
      intro j
      by_cases hj : i = j
      · subst hj
        by_cases hl : i < σ.length
        · rw [List.getElem?_set_self (by rw [wipe_length]; simpa using hl), List.getElem?_set_self (by rw [wipe_length]; exact hl)]
        · rw [List.getElem?_eq_none (by rw [List.length_set, wipe_length, List.length_set]; omega), List.getElem?_eq_none (by rw [List.length_set, wipe_length]; omega)]
      · rw [List.getElem?_set_ne hj, List.getElem?_set_ne hj]
        have out : ∀ {us : List Nat} {τ : Sl}, (wipe (τ.set i o) us)[j]? = (wipe τ us)[j]? := by
          intro us
          induction us with
          | nil => intro τ; exact List.getElem?_set_ne hj
          | cons u us ih =>
            intro τ
            show ((wipe (τ.set i o) us).set u none)[j]? = ((wipe τ us).set u none)[j]?
            by_cases hu : u = j
            · subst hu
              by_cases hl : u < τ.length
              · rw [List.getElem?_set_self (by rw [wipe_length]; simpa using hl), List.getElem?_set_self (by rw [wipe_length]; exact hl)]
              · rw [List.getElem?_eq_none (by rw [List.length_set, wipe_length, List.length_set]; omega), List.getElem?_eq_none (by rw [List.length_set, wipe_length]; omega)]
            · rw [List.getElem?_set_ne hu, List.getElem?_set_ne hu]
              exact ih
        exact out
theorem wipe_twice (σ : Sl) : ∀ vs : List Nat, wipe (wipe σ vs) vs = wipe σ vs := by
  have gen : ∀ (us vs : List Nat), (∀ i ∈ us, i ∈ vs) → wipe (wipe σ us) vs = wipe σ vs := by
    intro us
    induction us with
    | nil => intro vs _; rfl
    | cons u us ih =>
      intro vs h
      show wipe ((wipe σ us).set u none) vs = wipe σ vs
      rw [wipe_set_in (h u (List.mem_cons_self))]
      exact ih vs fun i hi => h i (List.mem_cons_of_mem _ hi)
  exact fun vs => gen vs vs fun _ h => h
def wgName (i : Nat) : WG := fun d δ Ψ => Ψ (δ.set i (.d d))
theorem dgt_name {i : Nat} : DGt K (gName i) (wgName i) [i] :=
  ⟨fun C M H σ δ v d Q Ψ I r hw q => q _ _ (I.putD r) (fun vs h => wipe_set_in (h i (by simp))) (OwnLe.set fun _ z => nomatch z) hw⟩
theorem dg_name {i : Nat} {x : Str} {pos : Pos} (hN : X.N.Nodup) (hi : X.N[i]? = some x) (hx : Loc X.env.scope x)
    (hf : X.fn x = true ∨ X.env.scope.names.lookup x = some .local := by first | exact .inl rfl | exact .inr rfl | assumption) : DG X (.Name x pos) (gName i) (wgName i) [i] := ⟨pg_name hN hi hx hf, dgt_name⟩
def wgNil : WGs := fun ds δ Ψ => ds = [] ∧ Ψ δ
def wgCons (w : WG) (ws : WGs) : WGs := fun ds δ Ψ => match ds with
  | d :: r => w d δ fun δ1 => ws r δ1 Ψ
  | [] => False
theorem dgs_nil : DGs X [] gNil wgNil [] := ⟨pgs_nil, ⟨fun C M H σ δ v d Q Ψ I r hw q => by
  obtain ⟨e, h⟩ := hw
  subst e
  cases r
  exact ⟨rfl, q σ δ I (fun _ _ => rfl) OwnLe.refl h⟩⟩⟩
theorem dgs_cons {e : Expr} {es : List Expr} {t : TG} {u : TGs} {w : WG} {ws : WGs} {is js : List Nat} (h1 : DG X e t w is) (h2 : DGs X es u ws js)
    (hs : (assignEach (e :: es) X.env).map (·.2) = assign e X.env :: (assignEach es X.env).map (·.2) := by rfl) : DGs X (e :: es) (gCons t u) (wgCons w ws) (is ++ js) := by
  refine ⟨pgs_cons h1.pe h2.pe hs, ⟨fun C M H σ δ v d Q Ψ I r hw q => ?_⟩⟩
  cases r with
  | nil => exact hw.elim
  | cons r1 r2 =>
    refine ⟨_, _, rfl, h1.dt.run C M H σ δ _ _ _ _ I r1 hw fun σ1 δ1 I1 e1 o1 w1 => ?_⟩
    refine h2.dt.run C M H σ1 δ1 _ _ _ _ I1 r2 w1 fun σ2 δ2 I2 e2 o2 w2 => q σ2 δ2 I2 (fun vs h => ?_) (o1.trans o2) w2
    rw [e2 vs fun i hi => h i (List.mem_append_right _ hi), e1 vs fun i hi => h i (List.mem_append_left _ hi)]
def wgTup (n : Nat) (ws : WGs) : WG := fun d δ Ψ => match d with
  | .tuple ds => ds.length = n ∧ ws ds δ Ψ
  | _ => False
theorem dg_tup {K' : PySem.W.Frag} {es : List Expr} {k : Nat} {t : TGs} {ws : WGs} {is : List Nat} {n : Nat} {pos : Pos} (hc : X.calm = true) (h : DGs X es t ws is)
    (hn : (assignEach es X.env).length = n := by rfl) (hst : (assignEach es X.env).findIdx? (·.1) = none := by rfl) (hK : X.K = K' := by rfl) : DG X (.Tuple es k pos) (gTup K' n t) (wgTup n ws) is := by
  subst hK
  refine ⟨pg_tup hc h.pe hn hst, ⟨fun C M H σ δ v d Q Ψ I r hw q => ?_⟩⟩
  unfold wgTup at hw
  split at hw
  · cases r with
    | tup e r =>
    exact ⟨_, _, rfl, e, by rw [← r.length]; exact hw.1, h.dt.run C M H σ δ _ _ _ _ I r hw.2 q⟩
  · exact hw.elim
end

/-! ### small statements, blocks -/
section
variable {X : Cx} {K : PySem.W.Frag} {st : Stmt} {rest : List Stmt} {t u : TS} {w ws : WS} {e : Expr} {te : TE} {we : WE} {pos : Pos}
def wNx : WS := fun Φ δ => Φ.nx δ
def wSeq (w ws : WS) : WS := fun Φ δ => w { Φ with nx := ws Φ } δ
theorem dss_nil : DSs X [] tNext wNx := ⟨pss_nil, ⟨fun C M H σ δ D Φ I hw c => c.nx M σ δ H I Tr.refl hw⟩⟩
theorem dss_cons (h1 : DS X st t w) (h2 : DSs X rest u ws) : DSs X (st :: rest) (tSeq t u) (wSeq w ws) := by
  refine ⟨pss_cons h1.pe h2.pe, ⟨fun C M H σ δ D Φ I hw c => ?_⟩⟩
  refine h1.dt.run C M H σ δ _ _ I hw ⟨fun M1 σ1 δ1 H1 I1 t1 q1 => ?_, c.bk, c.ct, c.rt⟩
  exact h2.dt.run C M1 H1 σ1 δ1 D Φ I1 q1 (c.move t1)
theorem dss_one (h1 : DS X st t w) : DSs X [st] t w := ⟨pss_one h1.pe, h1.dt⟩
theorem ds_pass : DS X (.Pass pos) tNext wNx := ⟨ps_pass, ⟨fun C M H σ δ D Φ I hw c => c.nx M σ δ H I Tr.refl hw⟩⟩
theorem ds_doc {x j pos'} : DS X (.Expr (.Constant (.str x) j pos) pos') tNext wNx := ⟨ps_doc, ⟨fun C M H σ δ D Φ I hw c => c.nx M σ δ H I Tr.refl hw⟩⟩
def wBk : WS := fun Φ δ => Φ.bk δ
def wCt : WS := fun Φ δ => Φ.ct δ
theorem ds_break : DS X (.Break pos) tBreak wBk := ⟨ps_break, ⟨fun C M H σ δ D Φ I hw c => c.bk M σ δ H I Tr.refl hw⟩⟩
theorem ds_continue : DS X (.Continue pos) tCont wCt := ⟨ps_continue, ⟨fun C M H σ δ D Φ I hw c => c.ct M σ δ H I Tr.refl hw⟩⟩
def wRet (we : WE) : WS := fun Φ δ => we δ Φ.rt
theorem ds_ret (h : DE X e te we) : DS X (.Return (some e) pos) (tRet te) (wRet we) :=
  ⟨ps_ret h.pe, ⟨fun C M H σ δ D Φ I hw c => h.dt.run C M H σ δ _ _ I hw fun v d H' x p r q => c.rt M σ δ H' v d (I.next x p) (Tr.of_ext I.pen x) r q⟩⟩
def wRetN : WS := fun Φ _ => Φ.rt .none
theorem ds_retN : DS X (.Return none pos) tRetN wRetN := ⟨ps_retN, ⟨fun C M H σ δ D Φ I hw c => c.rt M σ δ H _ _ I Tr.refl .non hw⟩⟩
def wFrz (i : Nat) (w : WS) : WS := fun Φ δ => w Φ (frz i δ)
theorem ds_frz (i : Nat) (h : DS X st t w) : DS X st t (wFrz i w) := by
  refine ⟨h.pe, ⟨fun C M H σ δ D Φ I hw c => ?_⟩⟩
  obtain ⟨M', I', t'⟩ := I.freeze i
  exact h.dt.run C M' H σ _ D Φ I' hw (c.move t')
def wIfS (wc : WT) (w ws : WS) : WS := fun Φ δ => wc δ fun b => if b = true then w Φ δ else ws Φ δ
theorem ds_if {c : Expr} {a b : List Stmt} {tc : TT} {wc : WT} (hc : DT X c tc wc) (ha : DSs X a t w) (hb : DSs X b u ws) : DS X (.If c a b pos) (tIfS tc t u) (wIfS wc w ws) := by
  refine ⟨ps_if hc.pe ha.pe hb.pe, ⟨fun C M H σ δ D Φ I hw c => hc.dt.run C M H σ δ _ _ I hw fun k H1 x p q => ?_⟩⟩
  cases k with
  | true => exact ha.dt.run C M H1 σ δ D Φ (I.next x p) q (c.move (Tr.of_ext I.pen x))
  | false => exact hb.dt.run C M H1 σ δ D Φ (I.next x p) q (c.move (Tr.of_ext I.pen x))
def wDrop (we : WE) : WS := fun Φ δ => we δ fun _ => Φ.nx δ
theorem ds_expr (h : DE X e te we) (hs : swapsWith e none pos.line X.env = pure false := by rfl) : DS X (.Expr e pos) (tDrop te) (wDrop we) :=
  ⟨ps_expr h.pe hs, ⟨fun C M H σ δ D Φ I hw c => h.dt.run C M H σ δ _ _ I hw fun v d H' x p r q => c.nx M σ δ H' (I.next x p) (Tr.of_ext I.pen x) q⟩⟩
/-- x = e -/
def wSet (i : Nat) (we : WE) : WS := fun Φ δ => we δ fun d => Φ.nx (δ.set i (.d d))
theorem dst_set {i : Nat} (h : DEt K te we) : DSt K (tAsg te (gName i)) (wSet i we) :=
  ⟨fun C M H σ δ D Φ I hw c => h.run C M H σ δ _ _ I hw fun v d H' x p r q => c.nx M _ _ H' ((I.next x p).putD r) (Tr.of_ext I.pen x) q⟩
theorem ds_set {i : Nat} {x : Str} {pos' : Pos} (hN : X.N.Nodup) (hi : X.N[i]? = some x) (hx : Loc X.env.scope x) (he : DE X e te we) (hs : swapsWith e (some (.Name x pos')) pos.line X.env = pure false := by rfl)
    (hf : X.fn x = true ∨ X.env.scope.names.lookup x = some .local := by first | exact .inl rfl | exact .inr rfl | assumption) : DS X (.Assign [.Name x pos'] e pos) (tAsg te (gName i)) (wSet i we) :=
  ⟨ps_set hN hi hx he.pe hs hf, dst_set he.dt⟩
def wOwn (i : Nat) (wf : WF) : WS := fun Φ δ => wf δ fun ds => i < δ.length ∧ Φ.nx (δ.set i (.own ds))
theorem dst_own {i : Nat} {wf : WF} (h : DFt K te wf) : DSt K (tAsg te (gName i)) (wOwn i wf) :=
  ⟨fun C M H σ δ D Φ I hw c => h.run C M H σ δ _ _ I hw fun a xs ds H' x ha ha' p r q =>
    c.nx _ _ _ H' (I.putOwn (by rw [← I.len]; exact q.1) ha x ha' p r) (fun v d r => r.map (With.fresh ha) (x.stays I.pen)) q.2⟩
theorem ds_own {i : Nat} {x : Str} {pos' : Pos} {wf : WF} (hN : X.N.Nodup) (hi : X.N[i]? = some x) (hx : Loc X.env.scope x) (he : DF X e te wf) (hs : swapsWith e (some (.Name x pos')) pos.line X.env = pure false := by rfl)
    (hf : X.fn x = true ∨ X.env.scope.names.lookup x = some .local := by first | exact .inl rfl | exact .inr rfl | assumption) : DS X (.Assign [.Name x pos'] e pos) (tAsg te (gName i)) (wOwn i wf) :=
  ⟨ps_set hN hi hx he.pe hs hf, dst_own he.dt⟩
/-- a target of any form -/
def wAsg (we : WE) (wg : WG) : WS := fun Φ δ => we δ fun d => wg d δ Φ.nx
theorem ds_asg {tg : Expr} {g : TG} {wg : WG} {is : List Nat} (he : DE X e te we) (hg : DG X tg g wg is) (hs : swapsWithSole [tg] e pos.line X.env = pure false := by rfl) (hw : swappedStores [tg] e X.env = pure none := by rfl)
    (h1 : (assignEach [tg] X.env).map (·.2) = [assign tg X.env] := by rfl) : DS X (.Assign [tg] e pos) (tAsg te g) (wAsg we wg) :=
  ⟨ps_asg he.pe hg.pe hs hw h1, ⟨fun C M H σ δ D Φ I hw c => he.dt.run C M H σ δ _ _ I hw fun v d H' x p r q =>
    hg.dt.run C M H' σ δ v d _ _ (I.next x p) r q fun σ' δ' I' _ _ q' => c.nx M σ' δ' H' I' (Tr.of_ext I.pen x) q'⟩⟩
/-- a, b = e1, e2 -/
def wPar (i j : Nat) (wa : WA) : WS := fun Φ δ => wa δ fun svs => match svs with
  | [.d x, .d y] => Φ.nx ((δ.set i (.d x)).set j (.d y))
  | _ => False
theorem dst_par {i j : Nat} {ta : TA} {wa : WA} (h : DAt K ta wa) : DSt K (tPar i j ta) (wPar i j wa) := by
  refine ⟨fun C M H σ δ D Φ I hw c => h.run C M H σ δ _ _ I hw fun vs svs H' x p r q => ?_⟩
  split at q
  · rename_i dx dy
    cases r with
    | cons r1 r =>
    cases r with
    | cons r2 r =>
    cases r
    refine ⟨_, _, rfl, c.nx M _ _ H' ?_ (Tr.of_ext I.pen x) q⟩
    exact ((I.next x p).put' (sv := .d dx) ⟨_, rfl, r1⟩ fun _ z => nomatch z).put' (sv := .d dy) ⟨_, rfl, r2⟩ fun _ z => nomatch z
  · exact q.elim
theorem ds_par {i j : Nat} {x y : Str} {a b : Expr} {ta : TA} {wa : WA} {px py pt : Pos} {kt k2 pt2} (hc : X.calm = true) (hN : X.N.Nodup) (hi : X.N[i]? = some x) (hj : X.N[j]? = some y) (hij : i ≠ j)
    (hx : X.env.scope.names.lookup x = some .local) (hy : X.env.scope.names.lookup y = some .local) (ha : DA X [a, b] ta wa)
    (hw : swappedStores [.Tuple [.Name x px, .Name y py] kt pt] (.Tuple [a, b] k2 pt2) X.env = pure (some [x, y]))
    (hs : swapsWithSole [.Tuple [.Name x px, .Name y py] kt pt] (.Tuple [a, b] k2 pt2) pos.line X.env = pure false := by rfl) :
    DS X (.Assign [.Tuple [.Name x px, .Name y py] kt pt] (.Tuple [a, b] k2 pt2) pos) (tPar i j ta) (wPar i j wa) := ⟨ps_par hc hN hi hj hij hx hy ha.pe hw hs, dst_par ha.dt⟩
/-- x += e, ints -/
def wAug (i : Nat) (f : Int → Int → Int) (we : WE) : WS := fun Φ δ => match δ[i]? with
  | some (.d (.int k)) => we δ fun d => asI d fun j => Φ.nx (δ.set i (.d (.int (f k j))))
  | _ => False
theorem dst_aug {i : Nat} {f : Int → Int → Int} (h : DEt K te we) : DSt K (tAug i te (ipI f)) (wAug i f we) := by
  refine ⟨fun C M H σ δ D Φ I hw c => ?_⟩
  unfold wAug at hw
  split at hw
  · rename_i k e
    obtain ⟨v, e1, r⟩ := I.slot i _ e
    cases r
    refine ⟨_, sAt_some e1, h.run C M H σ δ _ _ I hw fun v d H' x p r q => ?_⟩
    obtain ⟨j, rfl, q⟩ := asI_out q
    cases r
    exact ⟨k, j, rfl, rfl, c.nx M _ _ H' ((I.next x p).putD (.int _)) (Tr.of_ext I.pen x) q⟩
  · exact hw.elim
theorem ds_augAdd {i : Nat} {x : Str} {pos' : Pos} (hN : X.N.Nodup) (hi : X.N[i]? = some x) (hx : Loc X.env.scope x) (he : DE X e te we)
    (hf : X.fn x = true ∨ X.env.scope.names.lookup x = some .local := by first | exact .inl rfl | exact .inr rfl | assumption) : DS X (.AugAssign (.Name x pos') .Add e pos) (tAug i te (ipI fun i j => i + j)) (wAug i (fun i j => i + j) we) :=
  ⟨ps_aug hN hi hx he.pe ip_add hf, dst_aug he.dt⟩
/-- found.append(e), found a list of one's own -/
def wApp (i : Nat) (we : WE) : WS := fun Φ δ => match δ[i]? with
  | some (.own ds) => we δ fun d => ds.length < sizeLine ∧ Φ.nx (δ.set i (.own (ds ++ [d])))
  | _ => False
theorem dst_app {i : Nat} (h : DEt K te we) : DSt K (tDrop (tBM K "list" rAppend (tVar i) (tCons te tNil))) (wApp i we) := by
  refine ⟨fun C M H σ δ D Φ I hw c => ?_⟩
  unfold wApp at hw
  split at hw
  · rename_i ds e
    obtain ⟨a, xs, e1, m, h0, ha, r⟩ := I.slot i _ e
    refine ⟨_, sAt_some e1, .inl ⟨rfl, _, SqL.of ha⟩, h.run C M H σ δ _ _ I hw fun v d H' x p rd q => ?_⟩
    have I1 := I.next x p
    have np : C.p ≠ some a := fun z => by
      obtain ⟨o, e⟩ := I.pH0 _ z
      rw [h0] at e; cases e
    have ha1 := x _ _ ha np
    have r1 := r.stays (x.stays I.pen)
    refine ⟨a, xs, v, rfl, rfl, ha1, by rw [← r.length]; exact q.1, ?_⟩
    obtain ⟨I2, t2⟩ := I1.write e e1 h0 m ha1 (r1.append (.cons rd .nil))
    exact c.nx M _ _ _ I2 ((Tr.of_ext I.pen x).trans t2) q.2
  · exact hw.elim
theorem ds_app {i : Nat} {x : Str} {p1 p2 p3 : Pos} (ho : PE X (.Name x p1) (tVar i)) (he : DE X e te we) (hb : attributeBase (.Name x p1) "append" X.env (eval (.Name x p1) X.env) = eval (.Name x p1) X.env := by rfl) (hl : (p2.endLine == p3.line) = true := by rfl)
    (hs : starEach [e] X.env = (false, eval e X.env) :: starEach [] X.env := by rfl)
    (hpe : PE X (.Call (.Attribute (.Name x p1) "append" p2) [e] [] p3) (tBM X.K "list" rAppend (tVar i) (tCons te tNil)))
    (hsw : swapsWith (.Call (.Attribute (.Name x p1) "append" p2) [e] [] p3) none pos.line X.env = pure false := by rfl) :
    DS X (.Expr (.Call (.Attribute (.Name x p1) "append" p2) [e] [] p3) pos) (tDrop (tBM X.K "list" rAppend (tVar i) (tCons te tNil))) (wApp i we) :=
  ⟨ps_expr hpe hsw, dst_app he.dt⟩
def wExt (i : Nat) (we : WE) : WS := fun Φ δ => match δ[i]? with
  | some (.own ds) => we δ fun d => match d with
    | .list es => ds.length + es.length ≤ sizeLine ∧ Φ.nx (δ.set i (.own (ds ++ es)))
    | _ => False
  | _ => False
theorem dst_ext {i : Nat} (h : DEt K te we) : DSt K (tDrop (tBM K "list" rExtend (tVar i) (tCons te tNil))) (wExt i we) := by
  refine ⟨fun C M H σ δ D Φ I hw c => ?_⟩
  unfold wExt at hw
  split at hw
  · rename_i ds e
    obtain ⟨a, xs, e1, m, h0, ha, r⟩ := I.slot i _ e
    refine ⟨_, sAt_some e1, .inl ⟨rfl, _, SqL.of ha⟩, h.run C M H σ δ _ _ I hw fun v d H' x p rd q => ?_⟩
    split at q
    · have I1 := I.next x p
      have np : C.p ≠ some a := fun z => by
        obtain ⟨o, e⟩ := I.pH0 _ z
        rw [h0] at e; cases e
      have ha1 := x _ _ ha np
      have r1 := r.stays (x.stays I.pen)
      cases rd with
      | lst n2 e2 r2 =>
      refine ⟨a, _, xs, _, rfl, rfl, ha1, e2, by rw [← r.length, ← r2.length]; exact q.1, ?_⟩
      obtain ⟨I2, t2⟩ := I1.write e e1 h0 m ha1 (r1.append r2)
      exact c.nx M _ _ _ I2 ((Tr.of_ext I.pen x).trans t2) q.2
    · exact q.elim
  · exact hw.elim
theorem ds_ext {i : Nat} {x : Str} {p1 p2 p3 : Pos} (he : DE X e te we)
    (hpe : PE X (.Call (.Attribute (.Name x p1) "extend" p2) [e] [] p3) (tBM X.K "list" rExtend (tVar i) (tCons te tNil)))
    (hsw : swapsWith (.Call (.Attribute (.Name x p1) "extend" p2) [e] [] p3) none pos.line X.env = pure false := by rfl) :
    DS X (.Expr (.Call (.Attribute (.Name x p1) "extend" p2) [e] [] p3) pos) (tDrop (tBM X.K "list" rExtend (tVar i) (tCons te tNil))) (wExt i we) :=
  ⟨ps_expr hpe hsw, dst_ext he.dt⟩
end
end DL
/-! what is walked; for; comprehensions -/
namespace DL
open PySem PySem.Spec PyProof.Rows L2

abbrev WI := Dl → (List PyData → Prop) → Prop
/-- a walk that yields just these items, as long as B stands -/
structure ItD (K : PySem.W.Frag) (J : It) (items : List PyData) (B : (Addr → Prop) → Hp → Prop) : Prop where
  go : ∀ i M H d, B M H → items[i]? = some d → J.go i H ∧ ∀ x H', J.yld i H x H' → Same H H' ∧ Dr K M H' x d
  stop : ∀ M H, B M H → J.stop items.length H
  keep : ∀ M H M' H', B M H → Tr K M H M' H' → B M' H'
structure DIt (K : PySem.W.Frag) (wi : TI) (w : WI) : Prop where
  run : ∀ C M H σ δ R Ψ, Ok K C M H σ δ → w δ Ψ → (∀ J items B H', ExtP C.p H H' → PenV K M H' C.p → ItD K J items B → B M H' → Ψ items → R J H') → wi σ H R
structure DI (X : Cx) (tg iter : Expr) (wi : TI) (w : WI) : Prop where
  pe : PI X tg iter wi
  dt : DIt X.K wi w
section
variable {X : Cx} {K : PySem.W.Frag} {tg e : Expr} {es : List Expr} {te : TE} {we : WE} {ta : TA} {wa : WA} {pos p : Pos}
theorem itd_list {a : Addr} {items : List PyData} : ItD K (Itl K a) items (fun M H => Dr K M H (.ref a) (.list items)) := by
  refine ⟨fun i M H d b e => ?_, fun M H b => ?_, fun M H M' H' b t => t _ _ b⟩
  · cases b with
    | lst n ha r =>
    obtain ⟨v, hv, rv⟩ := r.getD e
    refine ⟨⟨_, v, SqL.of ha, hv⟩, fun x H' y => ?_⟩
    obtain ⟨rfl, y⟩ := y
    have := y _ (SqL.of ha)
    rw [hv] at this
    cases this
    exact ⟨Same.refl _, rv⟩
  · cases b with
    | lst n ha r => exact ⟨_, SqL.of ha, by rw [r.length]; exact Nat.le_refl _⟩
theorem itd_tup {a : Addr} {items : List PyData} : ItD K (Itt K a) items (fun M H => Dr K M H (.ref a) (.tuple items)) := by
  refine ⟨fun i M H d b e => ?_, fun M H b => ?_, fun M H M' H' b t => t _ _ b⟩
  · cases b with
    | tup ha r =>
    obtain ⟨v, hv, rv⟩ := r.getD e
    refine ⟨⟨_, v, ha, hv⟩, fun x H' y => ?_⟩
    obtain ⟨rfl, y⟩ := y
    have := y _ ha
    rw [hv] at this
    cases this
    exact ⟨Same.refl _, rv⟩
  · cases b with
    | tup ha r => exact ⟨_, ha, by rw [r.length]; exact Nat.le_refl _⟩
/-- the upto lo, lo + 1, .. -/
def upto (lo : Int) (n : Nat) : List PyData := (List.range n).map fun i => .int (lo + (i : Nat))
theorem itd_range {lo : Int} {n : Nat} : ItD K (Itr lo n) (upto lo n) (fun _ _ => True) := by
  refine ⟨fun i M H d b e => ?_, fun M H b => ?_, fun M H M' H' b t => trivial⟩
  · unfold upto at e
    rw [List.getElem?_map] at e
    obtain ⟨j, hj, rfl⟩ := Option.map_eq_some_iff.mp e
    obtain ⟨hl, hj⟩ := List.getElem?_eq_some_iff.mp hj
    rw [List.getElem_range] at hj
    rw [List.length_range] at hl
    subst hj
    refine ⟨hl, fun x H' y => ?_⟩
    obtain ⟨rfl, rfl⟩ := y
    exact ⟨Same.refl _, .int _⟩
  · show n ≤ (upto lo n).length
    unfold upto
    rw [List.length_map, List.length_range]
    exact Nat.le_refl _
def enumD (ds : List PyData) : List PyData := (ds.zipIdx).map fun p => .tuple [.int (p.2 : Nat), p.1]
theorem itd_enum {a : Addr} {items : List PyData} : ItD K (Ite K a) (enumD items) (fun M H => Dr K M H (.ref a) (.list items)) := by
  refine ⟨fun i M H d b e => ?_, fun M H b => ?_, fun M H M' H' b t => t _ _ b⟩
  · cases b with
    | lst n ha r =>
    unfold enumD at e
    rw [List.getElem?_map] at e
    obtain ⟨⟨d0, j⟩, hj, rfl⟩ := Option.map_eq_some_iff.mp e
    rw [List.getElem?_zipIdx] at hj
    obtain ⟨d1, h1, h2⟩ := Option.map_eq_some_iff.mp hj
    cases h2
    obtain ⟨v, hv, rv⟩ := r.getD h1
    refine ⟨⟨_, v, SqL.of ha, hv⟩, fun x H' y => ?_⟩
    obtain ⟨T, z, rfl, nT, rfl, y⟩ := y
    have := y _ (SqL.of ha)
    rw [hv] at this
    cases this
    refine ⟨same_new nT, .tup (SqT.of upd_same) (.cons ?_ (.cons (rv.stays (Stays.of_same (same_new nT))) .nil))⟩
    rw [Nat.zero_add]
    exact .int _
  · cases b with
    | lst n ha r =>
    refine ⟨_, SqL.of ha, ?_⟩
    unfold enumD
    rw [List.length_map, List.length_zipIdx, r.length]
    exact Nat.le_refl _
def wIL (we : WE) : WI := fun δ Ψ => we δ fun d => match d with
  | .list ds => Ψ ds
  | _ => False
def wIT (we : WE) : WI := fun δ Ψ => we δ fun d => match d with
  | .tuple ds => Ψ ds
  | _ => False
theorem di_list {K' : PySem.W.Frag} (he : DE X e te we) (hK : X.K = K' := by rfl) : DI X tg e (iList K' te) (wIL we) := by
  subst hK
  refine ⟨pi_list he.pe, ⟨fun C M H σ δ R Ψ I hw q => he.dt.run C M H σ δ _ _ I hw fun v d H' x p r hd => ?_⟩⟩
  split at hd
  · have r' := r
    cases r with
    | lst n ha ra => exact ⟨_, rfl, ⟨_, SqL.of ha⟩, q _ _ _ H' x p itd_list r' hd⟩
  · exact hd.elim
theorem di_tup {K' : PySem.W.Frag} (he : DE X e te we) (hK : X.K = K' := by rfl) : DI X tg e (iTup K' te) (wIT we) := by
  subst hK
  refine ⟨pi_tup he.pe, ⟨fun C M H σ δ R Ψ I hw q => he.dt.run C M H σ δ _ _ I hw fun v d H' x p r hd => ?_⟩⟩
  split at hd
  · have r' := r
    cases r with
    | tup ha ra => exact ⟨_, rfl, ⟨_, ha⟩, q _ _ _ H' x p itd_tup r' hd⟩
  · exact hd.elim
def wIR (wa : WA) : WI := fun δ Ψ => wa δ fun svs => match svs with
  | [.d (.int j)] => -(2 ^ 62) ≤ j ∧ j < 2 ^ 62 ∧ Ψ (upto 0 j.toNat)
  | [.d (.int i), .d (.int j)] => (-(2 ^ 62) ≤ i ∧ i < 2 ^ 62 ∧ -(2 ^ 62) ≤ j ∧ j < 2 ^ 62) ∧ Ψ (upto i (j - i).toNat)
  | _ => False
theorem di_range1 (hg : Gl X "range") (hm : X.mg "range" = none) (ha : DA X [e] ta wa) (hs : starEach [e] X.env = [(false, eval e X.env)] := by rfl) : DI X tg (.Call (.Name "range" p) [e] [] pos) (iRng1 ta)
    (fun δ Ψ => wa δ fun svs => match svs with
      | [.d (.int j)] => -(2 ^ 62) ≤ j ∧ j < 2 ^ 62 ∧ Ψ (upto 0 j.toNat)
      | _ => False) := by
  refine ⟨pi_range1 hg hm ha.pe hs, ⟨fun C M H σ δ R Ψ I hw q => ha.dt.run C M H σ δ _ _ I hw fun vs svs H' x p r hd => ?_⟩⟩
  split at hd
  · cases r with
    | cons r1 r =>
    cases r
    cases (show Dr X.K M H' _ (.int _) from r1)
    exact ⟨_, rfl, hd.1, hd.2.1, q _ _ _ H' x p itd_range trivial hd.2.2⟩
  · exact hd.elim
theorem di_range2 {b : Expr} (hg : Gl X "range") (hm : X.mg "range" = none) (ha : DA X [e, b] ta wa) (hs : starEach [e, b] X.env = [(false, eval e X.env), (false, eval b X.env)] := by rfl) (hs2 : starEach [b] X.env = [(false, eval b X.env)] := by rfl) :
    DI X tg (.Call (.Name "range" p) [e, b] [] pos) (iRng2 ta)
    (fun δ Ψ => wa δ fun svs => match svs with
      | [.d (.int i), .d (.int j)] => (-(2 ^ 62) ≤ i ∧ i < 2 ^ 62 ∧ -(2 ^ 62) ≤ j ∧ j < 2 ^ 62) ∧ Ψ (upto i (j - i).toNat)
      | _ => False) := by
  refine ⟨pi_range2 hg hm ha.pe hs hs2, ⟨fun C M H σ δ R Ψ I hw q => ha.dt.run C M H σ δ _ _ I hw fun vs svs H' x p r hd => ?_⟩⟩
  split at hd
  · cases r with
    | cons r1 r =>
    cases r with
    | cons r2 r =>
    cases r
    cases (show Dr X.K M H' _ (.int _) from r1)
    cases (show Dr X.K M H' _ (.int _) from r2)
    exact ⟨_, _, rfl, hd.1, q _ _ _ H' x p itd_range trivial hd.2⟩
  · exact hd.elim
theorem di_enum {K' : PySem.W.Frag} {tpos : Pos} {elts : List Expr} {kk : Nat} (hg : Gl X "enumerate") (hm : X.mg "enumerate" = none) (ha : DA X [e] ta wa) (hs : starEach [e] X.env = [(false, eval e X.env)] := by rfl) (hK : X.K = K' := by rfl) : DI X (.Tuple elts kk tpos) (.Call (.Name "enumerate" p) [e] [] pos) (iEnum K' ta)
    (fun δ Ψ => wa δ fun svs => match svs with
      | [.d (.list ds)] => Ψ (enumD ds)
      | _ => False) := by
  subst hK
  refine ⟨pi_enum hg hm ha.pe hs, ⟨fun C M H σ δ R Ψ I hw q => ha.dt.run C M H σ δ _ _ I hw fun vs svs H' x p r hd => ?_⟩⟩
  split at hd
  · cases r with
    | cons r1 r =>
    cases r
    have r1' := (show Dr X.K M H' _ (.list _) from r1)
    have r1'' := r1'
    cases r1' with
    | lst n ha ra => exact ⟨_, _, rfl, SqL.of ha, q _ _ _ H' x p itd_enum r1'' hd⟩
  · exact hd.elim
end

/-! ### for -/
def forW (wg : WG) (wb : WS) : List PyData → WS
  | [], Φ, δ => Φ.nx δ
  | x :: xs, Φ, δ => wg x δ fun δ1 => wb { Φ with nx := forW wg wb xs Φ, ct := forW wg wb xs Φ, bk := Φ.nx } δ1
def wFor (wi : WI) (wg : WG) (wb : WS) : WS := fun Φ δ => wi δ fun items => forW wg wb items Φ δ
theorem drop_cons {α : Type} {l : List α} {i : Nat} (h : i < l.length) : ∃ x, l[i]? = some x ∧ l.drop i = x :: l.drop (i + 1) :=
  ⟨l[i], List.getElem?_eq_getElem h, List.drop_eq_getElem_cons h⟩
section
variable {X : Cx} {K : PySem.W.Frag}
theorem dst_for {wi : TI} {wI : WI} {g : TG} {wg : WG} {is : List Nat} {tb : TS} {wb : WS} (hi : DIt K wi wI) (hg : DGt K g wg is) (hb : DSt K tb wb) : DSt K (tFor wi g tb) (wFor wI wg wb) := by
  refine ⟨fun C M H σ δ D Φ I hw c => hi.run C M H σ δ _ _ I hw fun J items B H1 x1 p1 it b1 h1 => ?_⟩
  have I1 := I.next x1 p1
  have t1 : Tr K M H M H1 := Tr.of_ext I.pen x1
  refine ⟨fun i m σ' H' => ∃ M' δ', Ok K C M' H' σ' δ' ∧ Tr K M H M' H' ∧ B M' H' ∧ forW wg wb (items.drop i) Φ δ' ∧ m = items.length - i ∧ i ≤ items.length,
    ⟨_, M, δ, I1, t1, b1, h1, rfl, Nat.zero_le _⟩, ?_⟩
  rintro i m σ' H' ⟨M', δ', I', t', b', h', rfl, hle⟩
  by_cases hlt : i < items.length
  · obtain ⟨d, hd, hdrop⟩ := drop_cons hlt
    rw [hdrop] at h'
    obtain ⟨go, yld⟩ := it.go i M' H' d b' hd
    refine .inr ⟨go, fun σ2 H2 => ∃ M2 δ2, Ok K C M2 H2 σ2 δ2 ∧ Tr K M H M2 H2 ∧ B M2 H2 ∧ forW wg wb (items.drop (i + 1)) Φ δ2,
      fun σ2 H2 ⟨M2, δ2, I2, t2, b2, h2⟩ => ⟨_, (by omega : items.length - (i + 1) < items.length - i), M2, δ2, I2, t2, b2, h2, rfl, hlt⟩, fun x Hx hy => ?_⟩
    obtain ⟨sm, rx⟩ := yld x Hx hy
    have Ix := I'.same sm
    have tx : Tr K M' H' M' Hx := fun v d r => r.stays (Stays.of_same sm)
    refine hg.run C M' Hx σ' δ' x d _ _ Ix rx h' fun σ3 δ3 I3 _ _ h3 => ?_
    refine hb.run C M' Hx σ3 δ3 _ _ I3 h3 ⟨fun M4 σ4 δ4 H4 I4 t4 q4 => ?_, fun M4 σ4 δ4 H4 I4 t4 q4 => ?_, fun M4 σ4 δ4 H4 I4 t4 q4 => ?_, fun M4 σ4 δ4 H4 v d I4 t4 r4 q4 => ?_⟩
    · exact ⟨M4, δ4, I4, t'.trans (tx.trans t4), it.keep _ _ _ _ b' (tx.trans t4), q4⟩
    · exact c.nx M4 σ4 δ4 H4 I4 (t'.trans (tx.trans t4)) q4
    · exact ⟨M4, δ4, I4, t'.trans (tx.trans t4), it.keep _ _ _ _ b' (tx.trans t4), q4⟩
    · exact c.rt M4 σ4 δ4 H4 v d I4 (t'.trans (tx.trans t4)) r4 q4
  · have e : i = items.length := by omega
    subst e
    rw [List.drop_length] at h'
    exact .inl ⟨it.stop M' H' b', c.nx M' σ' δ' H' I' t' h'⟩
theorem ds_for {iter tg : Expr} {body : List Stmt} {wi : TI} {wI : WI} {g : TG} {wg : WG} {is : List Nat} {tb : TS} {wb : WS} {pos : Pos} (hp : PassesOwn (model X.prog X.w) X.A X.env X.xe) (hc : X.calm = true)
    (hi : DI X tg iter wi wI) (hg : DG X tg g wg is) (hb : DSs X body tb wb) (hs : ∀ x, foldedSetIterable iter X.env x = pure x := by intro _; rfl) : DS X (.For tg iter body [] pos) (tFor wi g tb) (wFor wI wg wb) :=
  ⟨ps_for hp hc hi.pe hg.pe hb.pe hs, dst_for hi.dt hg.dt hb.dt⟩
end

/-! ### comprehensions -/
structure DTs (X : Cx) (ifs : List Expr) (t : TT) (w : WT) : Prop where
  pe : PTs X ifs t
  dt : DTt X.K t w
def wYes : WT := fun _ Φ => Φ true
theorem dts_nil {X : Cx} : DTs X [] tYes wYes := ⟨pts_nil, ⟨fun C M H σ δ Q Φ I hw q => q true H ExtP.refl I.pen hw⟩⟩
theorem dts_one {X : Cx} {c : Expr} {t : TT} {w : WT} (h : DT X c t w) : DTs X [c] t w := ⟨pts_one h.pe, h.dt⟩
def wipeD (δ : Dl) : List Nat → Dl
  | [] => δ
  | v :: vs => (wipeD δ vs).set v .un
def lcW (wg : WG) (wt : WT) (we : WE) (δ : Dl) : List PyData → List PyData → (List PyData → Prop) → Prop
  | [], acc, Φ => Φ acc
  | x :: xs, acc, Φ => wg x δ fun δ2 => wt δ2 fun b => if b = true then we δ2 fun d => acc.length < sizeLine ∧ lcW wg wt we δ xs (acc ++ [d]) Φ else lcW wg wt we δ xs acc Φ
def wLc (wI : WI) (wg : WG) (wt : WT) (we : WE) (vs : List Nat) : WF := fun δ Φ => wI δ fun items => lcW wg wt we (wipeD δ vs) items [] Φ
section
variable {K : PySem.W.Frag} {C : Ct} {M M' : Addr → Prop} {H H' : Hp} {σ : Sl} {δ : Dl}
theorem Ok.wiped (I : Ok K C M H σ δ) : ∀ vs : List Nat, Ok K C M H (wipe σ vs) (wipeD δ vs)
  | [] => I
  | v :: vs => (I.wiped vs).forget none
theorem OwnLe.wiped {σ : Sl} {δ : Dl} : ∀ vs : List Nat, OwnLe σ δ (wipe σ vs) (wipeD δ vs)
  | [] => OwnLe.refl
  | v :: vs => (OwnLe.wiped vs).trans (OwnLe.set fun _ z => nomatch z)
/-- one more object is one's own, in no slot -/
theorem Ok.with (I : Ok K C M H σ δ) {a : Addr} {o : HO} (ha : H a = none) : Ok K C (With M a) (upd H a o) σ δ := by
  have st : Stays M H (upd H a o) := Stays.of_same (same_new ha)
  refine ⟨I.len, fun j t e => ?_, I.dist, fun b x e n => same_new ha _ _ (I.ext b x e n), fun b m => .inl (I.sub b m), fun b m => ?_, I.pen.with ha, I.pH0, I.c0⟩
  · have h := I.slot j t e
    cases t with
    | un => trivial
    | d x => obtain ⟨v, e1, r1⟩ := h; exact ⟨v, e1, r1.map (With.fresh ha) st⟩
    | pen => exact h
    | own es =>
      obtain ⟨b, ys, e1, m, h0, hb, r1⟩ := h
      exact ⟨b, ys, e1, .inl m, h0, same_new ha _ _ hb, r1.map (With.fresh ha) st⟩
    | raw v => exact h
    | lenL n => exact h
    | kd P w ps => obtain ⟨b, xs, e1, n1, h1, r1⟩ := h; exact ⟨b, xs, e1, fun z => z.elim n1 (fun z => by rw [z, ha] at h1; cases h1), st _ _ h1 fun _ => n1, r1.map (With.fresh ha) st⟩
    | ownD kd =>
      obtain ⟨b, kvs, e1, m, h0, hb, r1⟩ := h
      exact ⟨b, kvs, e1, .inl m, h0, same_new ha _ _ hb, r1.map (With.fresh ha) st⟩
  · rcases m with m | rfl
    · obtain ⟨o, e⟩ := I.alive b m
      exact ⟨o, same_new ha _ _ e⟩
    · exact ⟨_, upd_same⟩
/-- such an object is changed -/
theorem Ok.poke (I : Ok K C M H σ δ) {a : Addr} {xs ys : List V} (h0 : C.H0 a = none) (m : M a) (ha : H a = some (.lst xs)) (no : ∀ i ds, δ[i]? = some (.own ds) → sAt σ i ≠ some (.ref a)) : Ok K C M (upd H a (.lst ys)) σ δ ∧ Stays M H (upd H a (.lst ys)) := by
  have st : Stays M H (upd H a (.lst ys)) := fun b o e n => by
    by_cases z : b = a
    · subst z
      rw [ha] at e; cases e
      exact absurd m (n rfl)
    · rw [upd_ne z]; exact e
  have np : C.p ≠ some a := fun z => by
    obtain ⟨o, e⟩ := I.pH0 _ z
    rw [h0] at e; cases e
  refine ⟨⟨I.len, fun j t e => ?_, I.dist, fun b o e n => ?_, I.sub, fun b mb => ?_, fun q z => ?_, I.pH0, I.c0⟩, st⟩
  · have h := I.slot j t e
    cases t with
    | un => trivial
    | d x => obtain ⟨v, e1, r1⟩ := h; exact ⟨v, e1, r1.stays st⟩
    | pen => exact h
    | own fs =>
      obtain ⟨b, zs, e1, mb, hb0, hb, r1⟩ := h
      have ne : b ≠ a := fun z => by
        subst z
        exact no j fs e e1
      exact ⟨b, zs, e1, mb, hb0, by rw [upd_ne ne]; exact hb, r1.stays st⟩
    | raw v => exact h
    | lenL n => exact h
    | kd P w ps => obtain ⟨b, xs, e1, n1, h1, r1⟩ := h; exact ⟨b, xs, e1, n1, st _ _ h1 fun _ => n1, r1.stays st⟩
    | ownD kd =>
      obtain ⟨b, kvs, e1, mb, hb0, hb, r1⟩ := h
      have ne : b ≠ a := fun z => by
        subst z
        rw [ha] at hb
        cases hb
      exact ⟨b, kvs, e1, mb, hb0, by rw [upd_ne ne]; exact hb, r1.stays st⟩
  · have ne : b ≠ a := fun z => by
      subst z
      rw [h0] at e; cases e
    rw [upd_ne ne]
    exact I.ext b o e n
  · by_cases z : b = a
    · subst z; exact ⟨_, upd_same⟩
    · obtain ⟨o, e⟩ := I.alive b mb
      exact ⟨o, by rw [upd_ne z]; exact e⟩
  · obtain ⟨mq, g, s, b, ns, e, rg, h1, h2⟩ := I.pen q z
    have ne : q ≠ a := fun y => np (by rw [← y]; exact z)
    exact ⟨mq, g, s, b, ns, by rw [upd_ne ne]; exact e, rg.stays st, h1, h2⟩
theorem dft_lc {wi : TI} {wI : WI} {g : TG} {wg : WG} {is vs : List Nat} {tt : TT} {wt : WT} {te : TE} {we : WE} (hi : DIt K wi wI) (hg : DGt K g wg is) (hsub : ∀ i ∈ is, i ∈ vs) (ht : DTt K tt wt) (he : DEt K te we) :
    DFt K (tLc wi g tt te vs) (wLc wI wg wt we vs) := by
  refine ⟨fun C M H σ δ Q Φ I hw q => hi.run C M H σ δ _ _ I hw fun J items B H1 x1 p1 it b1 h1 => ?_⟩
  have I1 := I.next x1 p1
  intro D hD
  have hD0 : H D = none := by
    cases z : H D with
    | none => rfl
    | some o =>
      by_cases zp : C.p = some D
      · obtain ⟨_, g, s, b, ns, e2, _⟩ := p1 D zp
        rw [hD] at e2; cases e2
      · have e2 := x1 _ _ z zp
        rw [hD] at e2; cases e2
  have hC0 : C.H0 D = none := I1.fresh0 hD
  have np : C.p ≠ some D := fun z => by
    obtain ⟨o, e⟩ := I.pH0 _ z
    rw [hC0] at e; cases e
  have slotNo : ∀ i ds, δ[i]? = some (.own ds) → sAt σ i ≠ some (.ref D) := fun i ds e z => by
    obtain ⟨b, ys, e1, m, h0, hb, r1⟩ := I1.slot i _ e
    rw [z] at e1
    cases e1
    rw [hD] at hb; cases hb
  refine ⟨fun i m H' => ∃ acc ds, Ok K C (With M D) H' σ δ ∧ ExtP C.p H H' ∧ H' D = some (.lst acc) ∧ DrA K (With M D) H' acc ds ∧ B (With M D) H' ∧ lcW wg wt we (wipeD δ vs) (items.drop i) ds Φ ∧ m = items.length - i ∧ i ≤ items.length,
    ⟨_, [], [], I1.with hD, x1.trans (ExtP.new hD), upd_same, .nil, it.keep _ _ _ _ b1 (fun v d r => r.map (With.fresh hD) (Stays.of_same (same_new hD))), h1, rfl, Nat.zero_le _⟩, ?_⟩
  rintro i m H' ⟨acc, ds, I', x', hA, ra, b', h', rfl, hle⟩
  by_cases hlt : i < items.length
  · obtain ⟨d, hd, hdrop⟩ := drop_cons hlt
    rw [hdrop] at h'
    obtain ⟨go, yld⟩ := it.go i (With M D) H' d b' hd
    refine .inr ⟨go, fun H2 => ∃ acc ds, Ok K C (With M D) H2 σ δ ∧ ExtP C.p H H2 ∧ H2 D = some (.lst acc) ∧ DrA K (With M D) H2 acc ds ∧ B (With M D) H2 ∧ lcW wg wt we (wipeD δ vs) (items.drop (i + 1)) ds Φ,
      fun H2 ⟨acc, ds, a1, a2, a3, a4, a5, a6⟩ => ⟨_, (by omega : items.length - (i + 1) < items.length - i), acc, ds, a1, a2, a3, a4, a5, a6, rfl, hlt⟩, fun x Hx hy => ?_⟩
    obtain ⟨sm, rx⟩ := yld x Hx hy
    have Ix := I'.same sm
    have bx := it.keep _ _ (With M D) Hx b' (fun v d r => r.stays (Stays.of_same sm))
    have rax := ra.stays (Stays.of_same sm)
    have hAx := sm _ _ hA
    have xx := x'.trans (ExtP.of_same sm)
    refine hg.run C (With M D) Hx (wipe σ vs) (wipeD δ vs) x d _ _ (Ix.wiped vs) rx h' fun σ3 δ3 I3 w3 _ h3 => ?_
    refine ⟨by rw [w3 vs hsub, wipe_twice], ?_⟩
    refine ht.run C (With M D) Hx σ3 δ3 _ _ I3 h3 fun k H4 x4 p4 h4 => ?_
    have I4 := Ix.next x4 p4
    have st4 := x4.stays Ix.pen
    have hA4 := x4 _ _ hAx np
    have b4 := it.keep _ _ (With M D) H4 bx (fun v d r => r.stays st4)
    cases k with
    | false => exact ⟨acc, ds, I4, xx.trans x4, hA4, rax.stays st4, b4, h4⟩
    | true =>
      refine he.run C (With M D) H4 σ3 δ3 _ _ (I3.next x4 p4) h4 fun y dy H5 x5 p5 r5 h5 => ?_
      have I5 := I4.next x5 p5
      have st5 := x5.stays I4.pen
      have hA5 := x5 _ _ hA4 np
      have b5 := it.keep _ _ (With M D) H5 b4 (fun v d r => r.stays st5)
      have ra5 := (rax.stays st4).stays st5
      obtain ⟨I6, st6⟩ := I5.poke (ys := acc ++ [y]) hC0 (.inr rfl) hA5 slotNo
      refine ⟨acc, hA5, by rw [← ra5.length]; exact h5.1, acc ++ [y], ds ++ [dy], I6, ?_, upd_same, (ra5.append (.cons r5 .nil)).stays st6, it.keep _ _ _ _ b5 (fun v d r => r.stays st6), h5.2⟩
      intro b o e n
      have ne : b ≠ D := fun z => by
        subst z
        rw [hD0] at e; cases e
      rw [upd_ne ne]
      exact x5 _ _ (x4 _ _ (xx _ _ e n) n) n
  · have e : i = items.length := by omega
    subst e
    rw [List.drop_length] at h'
    exact .inl ⟨it.stop _ H' b', q D acc ds H' x' hD0 hA I'.pen ra h'⟩
end
section
variable {X : Cx}
theorem df_lc {elt tg iter : Expr} {ifs : List Expr} {scope : Scope} {own : List (Str × Nat)} {pos : Pos} {wi : TI} {wI : WI} {g : TG} {wg : WG} {is : List Nat} {tt : TT} {wt : WT} {te : TE} {we : WE} (hc : X.calm = true) (hN : X.N.Nodup)
    (hi : DI X tg iter wi wI) (ok : BlkOk X.N X.env.scope scope own) (hsub : ∀ i ∈ is, i ∈ own.map (·.2))
    (hg : ∀ (s : Shared) (H : Hp) (C : Addr) (cl : List (Str × Addr)) (fp : List Addr), DG (X.blk s H scope (compEnvC scope cl C X.env) fp) tg g wg is)
    (ht : ∀ (s : Shared) (H : Hp) (C : Addr) (cl : List (Str × Addr)) (fp : List Addr), DTs (X.blk s H scope (compEnvC scope cl C X.env) fp) ifs tt wt)
    (he : ∀ (s : Shared) (H : Hp) (C : Addr) (cl : List (Str × Addr)) (fp : List Addr), DE (X.blk s H scope (compEnvC scope cl C X.env) fp) elt te we)
    (hs : ∀ x, foldedSetIterable iter X.env x = pure x := by intro _; rfl) :
    DF X (.ListComp elt [⟨tg, iter, ifs, 0⟩] scope pos) (tLc wi g tt te (own.map (·.2))) (wLc wI wg wt we (own.map (·.2))) :=
  ⟨pe_lc hc hN hi.pe ok (fun s H C cl fp => (hg s H C cl fp).pe) (fun s H C cl fp => (ht s H C cl fp).pe) (fun s H C cl fp => (he s H C cl fp).pe) hs,
   dft_lc hi.dt (hg X.s_0 (fun _ => none) 0 [] []).dt hsub (ht X.s_0 (fun _ => none) 0 [] []).dt (he X.s_0 (fun _ => none) 0 [] []).dt⟩
theorem ps_lc' {i : Nat} {y : Str} {py : Pos} {elt tg iter : Expr} {ifs : List Expr} {scope : Scope} {own : List (Str × Nat)} {pos spos : Pos} {wi : TI} {wI : WI} {g : TG} {wg : WG} {is : List Nat} {tt : TT} {wt : WT} {te : TE} {we : WE}
    (hc : X.calm = true) (hN : X.N.Nodup) (hy : X.N[i]? = some y) (hyl : X.env.scope.names.lookup y = some .local)
    (hsw : swapsWith (.ListComp elt [⟨tg, iter, ifs, 0⟩] scope pos) (some (.Name y py)) spos.line X.env = pure true)
    (hi : DI X tg iter wi wI) (ok : BlkOk X.N X.env.scope scope own)
    (hg : ∀ (s : Shared) (H : Hp) (C : Addr) (cl : List (Str × Addr)) (fp : List Addr), DG (X.blk s H scope (compEnvC scope cl C X.env) fp) tg g wg is)
    (ht : ∀ (s : Shared) (H : Hp) (C : Addr) (cl : List (Str × Addr)) (fp : List Addr), DTs (X.blk s H scope (compEnvC scope cl C X.env) fp) ifs tt wt)
    (he : ∀ (s : Shared) (H : Hp) (C : Addr) (cl : List (Str × Addr)) (fp : List Addr), DE (X.blk s H scope (compEnvC scope cl C X.env) fp) elt te we)
    (hs : ∀ x, foldedSetIterable iter X.env x = pure x := by intro _; rfl) :
    PS X (.Assign [.Name y py] (.ListComp elt [⟨tg, iter, ifs, 0⟩] scope pos) spos) (tAsg (tLc wi g tt te (own.map (·.2))) (gName i)) :=
  ps_setLc hc hN hy hyl hsw hi.pe ok (fun s H C cl fp => (hg s H C cl fp).pe) (fun s H C cl fp => (ht s H C cl fp).pe) (fun s H C cl fp => (he s H C cl fp).pe) hs
end
end DL
/-! built-ins, items, slices, calls of defs, over data -/
namespace DL
open PySem PySem.Spec PyProof.Rows L2
section
variable {X : Cx} {K : PySem.W.Frag} {e a b : Expr} {es : List Expr} {te ta tb : TE} {we wa' wb : WE} {t : TA} {wa : WA} {pos p : Pos} {x : Str}

/-! ### a built-in by its arguments -/
abbrev WB := List SV → (PyData → Prop) → Prop
structure CallD (K : PySem.W.Frag) (r : List V → Hp → VK → Prop) (f : WB) : Prop where
  run : ∀ M H vs svs Q Φ (p : Option Addr), PenV K M H p → (∀ q, M q → ∃ o, H q = some o) → ArgsOk K p M H vs svs → f svs Φ →
    (∀ v d H', Same H H' → Dr K M H' v d → Φ d → Q v H') → r vs H Q
def wCall (f : WB) (wa : WA) : WE := fun δ Φ => wa δ fun svs => f svs Φ
theorem det_cb {r : List V → Hp → VK → Prop} {f : WB} (hr : CallD K r f) (h : DAt K t wa) : DEt K (tCB r t) (wCall f wa) := by
  refine ⟨fun C M H σ δ Q Φ I hw q => h.run C M H σ δ _ _ I hw fun vs svs H1 x1 p1 r1 w1 => ?_⟩
  have I1 := I.next x1 p1
  exact hr.run M H1 vs svs Q Φ C.p p1 I1.alive r1 w1 fun v d H2 sm rd hf => q v d H2 (x1.trans (ExtP.of_same sm)) (p1.stay sm) rd hf
theorem de_cb {id : String} {r : List V → Hp → VK → Prop} {f : WB} (hc : CallR X (.builtin id) r) (hr : CallD X.K r f) (hg : Gl X x) (hm : X.mg x = none) (hv : bootBuiltins x = some (.builtin id)) (ha : DA X (e :: es) t wa) (hn : x ≠ "__name__" := by decide) (hdb : (x == ("__debug__" : Str)) = false := by decide)
    (he : starEach (e :: es) X.env = (false, eval e X.env) :: starEach es X.env := by rfl) (hpl : (backTo pos (starEach es X.env)).any (·.1) = false := by rfl) : DE X (.Call (.Name x p) (e :: es) [] pos) (tCB r t) (wCall f wa) :=
  ⟨pe_callB hc hg hm hv ha.pe hn hdb he hpl, det_cb hr ha.dt⟩
theorem de_ct {T : String} {r : List V → Hp → VK → Prop} {f : WB} (hc : CallR X (.type T) r) (hr : CallD X.K r f) (hg : Gl X x) (hm : X.mg x = none) (hv : bootBuiltins x = some (.type T)) (ha : DA X (e :: es) t wa) (hn : x ≠ "__name__" := by decide) (hdb : (x == ("__debug__" : Str)) = false := by decide)
    (he : starEach (e :: es) X.env = (false, eval e X.env) :: starEach es X.env := by rfl) (hpl : (backTo pos (starEach es X.env)).any (·.1) = false := by rfl) : DE X (.Call (.Name x p) (e :: es) [] pos) (tCB r t) (wCall f wa) :=
  ⟨pe_callTy hc hg hm hv ha.pe hn hdb he hpl, det_cb hr ha.dt⟩
theorem args1 {M : Addr → Prop} {H : Hp} {p : Option Addr} {vs : List V} {d : PyData} (h : ArgsOk K p M H vs [.d d]) : ∃ v, vs = [v] ∧ Dr K M H v d := by
  cases h with
  | cons r t =>
    cases t
    exact ⟨_, rfl, r⟩
theorem args2 {M : Addr → Prop} {H : Hp} {p : Option Addr} {vs : List V} {d e : PyData} (h : ArgsOk K p M H vs [.d d, .d e]) : ∃ v w, vs = [v, w] ∧ Dr K M H v d ∧ Dr K M H w e := by
  cases h with
  | cons r t =>
    cases t with
    | cons r2 t =>
      cases t
      exact ⟨_, _, rfl, r, r2⟩
/-- a function of one datum -/
def f1 (f : PyData → (PyData → Prop) → Prop) : WB := fun svs Φ => match svs with
  | [.d d] => f d Φ
  | _ => False
def f2 (f : W2) : WB := fun svs Φ => match svs with
  | [.d d, .d e] => f d e Φ
  | _ => False
theorem f1_out {f : PyData → (PyData → Prop) → Prop} {svs : List SV} {Φ : PyData → Prop} (h : f1 f svs Φ) : ∃ d, svs = [.d d] ∧ f d Φ := by
  unfold f1 at h
  split at h
  · exact ⟨_, rfl, h⟩
  · exact h.elim
theorem f2_out {f : W2} {svs : List SV} {Φ : PyData → Prop} (h : f2 f svs Φ) : ∃ d e, svs = [.d d, .d e] ∧ f d e Φ := by
  unfold f2 at h
  split at h
  · exact ⟨_, _, rfl, h⟩
  · exact h.elim
/-- len -/
def fLen (d : PyData) (Φ : PyData → Prop) : Prop := match d with
  | .list ds => Φ (.int ds.length)
  | .tuple ds => Φ (.int ds.length)
  | .str x => x.length ≤ sizeLine ∧ Φ (.int x.length)
  | _ => False
theorem cd_len : CallD K (fun xs H Q => ∃ x n, xs = [x] ∧ LenV K x H n ∧ Q (.int n) H) (f1 fLen) := by
  refine ⟨fun M H vs svs Q Φ p pv al r hf q => ?_⟩
  replace hf := f1_out hf
  obtain ⟨d, rfl, hf⟩ := hf
  replace r := args1 r
  obtain ⟨v, rfl, r⟩ := r
  unfold fLen at hf
  split at hf
  · cases r with
    | lst n ha ra => exact ⟨_, _, rfl, .inl ⟨_, SqL.of ha, rfl⟩, q _ _ H (Same.refl H) (.int _) (by rw [← ra.length]; exact hf)⟩
  · cases r with
    | tup ha ra => exact ⟨_, _, rfl, .inr ⟨_, ha, rfl⟩, q _ _ H (Same.refl H) (.int _) (by rw [← ra.length]; exact hf)⟩
  · cases r
    exact ⟨_, _, rfl, ⟨hf.1, rfl⟩, q _ _ H (Same.refl H) (.int _) hf.2⟩
  · exact hf.elim
theorem de_len {K' : PySem.W.Frag} (hm : X.mg "len" = none) (ha : DA X [e] t wa) (hg : Gl X "len" := by rfl) (he : starEach [e] X.env = (false, eval e X.env) :: starEach [] X.env := by rfl) (hpl : (backTo pos (starEach [] X.env)).any (·.1) = false := by rfl) (hK : X.K = K' := by rfl) :
    DE X (.Call (.Name "len" p) [e] [] pos) (tCB (fun xs H Q => ∃ x n, xs = [x] ∧ LenV K' x H n ∧ Q (.int n) H) t) (wCall (f1 fLen) wa) := by
  subst hK
  exact de_cb call_len cd_len hg hm boot_len ha (he := he) (hpl := hpl)
/-- list(x), tuple(x), int(n) -/
def fListOf (d : PyData) (Φ : PyData → Prop) : Prop := match d with
  | .list ds => Φ (.list ds)
  | .tuple ds => Φ (.list ds)
  | _ => False
def fTupleOf (d : PyData) (Φ : PyData → Prop) : Prop := match d with
  | .list ds => Φ (.tuple ds)
  | .tuple ds => Φ (.tuple ds)
  | _ => False
theorem al_new {M : Addr → Prop} {H : Hp} (al : ∀ q, M q → ∃ o, H q = some o) {a : Addr} (h : H a = none) : ¬ M a := fun m => by
  obtain ⟨o, z⟩ := al a m
  rw [h] at z; cases z
theorem cd_list : CallD K (fun xs H Q => ∃ p ys, xs = [.ref p] ∧ (SqL K H p ys ∨ SqT K H p ys) ∧ ∀ l, H l = none → Q (.ref l) (upd H l (.lst ys))) (f1 fListOf) := by
  refine ⟨fun M H vs svs Q Φ p pv al r hf q => ?_⟩
  replace hf := f1_out hf
  obtain ⟨d, rfl, hf⟩ := hf
  replace r := args1 r
  obtain ⟨v, rfl, r⟩ := r
  unfold fListOf at hf
  split at hf
  · cases r with
    | lst n ha ra => exact ⟨_, _, rfl, .inl (SqL.of ha), fun l hl => q _ _ _ (same_new hl) (.lst (al_new al hl) upd_same (ra.stays (Stays.of_same (same_new hl)))) hf⟩
  · cases r with
    | tup ha ra => exact ⟨_, _, rfl, .inr ha, fun l hl => q _ _ _ (same_new hl) (.lst (al_new al hl) upd_same (ra.stays (Stays.of_same (same_new hl)))) hf⟩
  · exact hf.elim
theorem cd_tuple : CallD K (fun xs H Q => ∃ p ys, xs = [.ref p] ∧ ((SqL K H p ys ∧ ∀ l, H l = none → Q (.ref l) (upd H l (.tup ys))) ∨ (SqT K H p ys ∧ Q (.ref p) H))) (f1 fTupleOf) := by
  refine ⟨fun M H vs svs Q Φ p pv al r hf q => ?_⟩
  replace hf := f1_out hf
  obtain ⟨d, rfl, hf⟩ := hf
  replace r := args1 r
  obtain ⟨v, rfl, r⟩ := r
  unfold fTupleOf at hf
  split at hf
  · cases r with
    | lst n ha ra => exact ⟨_, _, rfl, .inl ⟨SqL.of ha, fun l hl => q _ _ _ (same_new hl) (.tup (SqT.of upd_same) (ra.stays (Stays.of_same (same_new hl)))) hf⟩⟩
  · cases r with
    | tup ha ra => exact ⟨_, _, rfl, .inr ⟨ha, q _ _ _ (Same.refl H) (.tup ha ra) hf⟩⟩
  · exact hf.elim
theorem de_list {K' : PySem.W.Frag} (hm : X.mg "list" = none) (ha : DA X [e] t wa) (hg : Gl X "list" := by rfl) (he : starEach [e] X.env = (false, eval e X.env) :: starEach [] X.env := by rfl) (hpl : (backTo pos (starEach [] X.env)).any (·.1) = false := by rfl) (hK : X.K = K' := by rfl) :
    DE X (.Call (.Name "list" p) [e] [] pos) (tCB (fun xs H Q => ∃ p ys, xs = [.ref p] ∧ (SqL K' H p ys ∨ SqT K' H p ys) ∧ ∀ l, H l = none → Q (.ref l) (upd H l (.lst ys))) t) (wCall (f1 fListOf) wa) := by
  subst hK
  exact de_ct call_list_of cd_list hg hm (by decide +kernel) ha (he := he) (hpl := hpl)
theorem de_tuple {K' : PySem.W.Frag} (hm : X.mg "tuple" = none) (ha : DA X [e] t wa) (hg : Gl X "tuple" := by rfl) (he : starEach [e] X.env = (false, eval e X.env) :: starEach [] X.env := by rfl) (hpl : (backTo pos (starEach [] X.env)).any (·.1) = false := by rfl) (hK : X.K = K' := by rfl) :
    DE X (.Call (.Name "tuple" p) [e] [] pos) (tCB (fun xs H Q => ∃ p ys, xs = [.ref p] ∧ ((SqL K' H p ys ∧ ∀ l, H l = none → Q (.ref l) (upd H l (.tup ys))) ∨ (SqT K' H p ys ∧ Q (.ref p) H))) t) (wCall (f1 fTupleOf) wa) := by
  subst hK
  exact de_ct call_tuple_of cd_tuple hg hm (by decide +kernel) ha (he := he) (hpl := hpl)
/-- all(xs) of bools -/
def asBs : List PyData → Option (List Bool)
  | [] => some []
  | .bool b :: r => (asBs r).map (b :: ·)
  | _ :: _ => none
theorem asBs_eq : ∀ {ds : List PyData} {bs : List Bool}, asBs ds = some bs → ds = bs.map .bool
  | [], _, e => by cases e; rfl
  | .bool b :: r, _, e => by
    obtain ⟨s, e1, e2⟩ := Option.map_eq_some_iff.mp (show (asBs r).map (b :: ·) = some _ from e)
    subst e2
    rw [asBs_eq e1]; rfl
  | .none :: r, _, e => by cases e
  | .int _ :: r, _, e => by cases e
  | .str _ :: r, _, e => by cases e
  | .list _ :: r, _, e => by cases e
  | .tuple _ :: r, _, e => by cases e
  | .dict _ :: r, _, e => by cases e
theorem asBs_map : ∀ (bs : List Bool), asBs (bs.map .bool) = some bs
  | [] => rfl
  | b :: r => by show (asBs (r.map .bool)).map (b :: ·) = _; rw [asBs_map r]; rfl
theorem DrA.of_bls {M : Addr → Prop} {H : Hp} : ∀ {bs : List Bool} {vs : List V}, DrA K M H vs (bs.map PyData.bool) → vs = bs.map V.bl
  | [], _, h => by cases h; rfl
  | n :: r, _, h => by
    cases h with
    | cons h t =>
      cases h
      rw [DrA.of_bls t]
      rfl
def fAll (d : PyData) (Φ : PyData → Prop) : Prop := match d with
  | .list ds => match asBs ds with
    | some bs => Φ (.bool (bs.all id))
    | none => False
  | _ => False
def fAny (d : PyData) (Φ : PyData → Prop) : Prop := match d with
  | .list ds => match asBs ds with
    | some bs => Φ (.bool (bs.any id))
    | none => False
  | _ => False
theorem cd_all : CallD K (rAll K) (f1 fAll) := by
  refine ⟨fun M H vs svs Q Φ p pv al r hf q => ?_⟩
  replace hf := f1_out hf
  obtain ⟨d, rfl, hf⟩ := hf
  replace r := args1 r
  obtain ⟨v, rfl, r⟩ := r
  unfold fAll at hf
  split at hf
  · split at hf
    · rename_i ds bs eb
      cases r with
      | lst n ha ra =>
      rw [asBs_eq eb] at ra
      rw [DrA.of_bls ra] at ha
      exact ⟨_, bs, rfl, SqL.of ha, q _ _ H (Same.refl H) (.bl _) hf⟩
    · exact hf.elim
  · exact hf.elim
theorem cd_any : CallD K (rAny K) (f1 fAny) := by
  refine ⟨fun M H vs svs Q Φ p pv al r hf q => ?_⟩
  replace hf := f1_out hf
  obtain ⟨d, rfl, hf⟩ := hf
  replace r := args1 r
  obtain ⟨v, rfl, r⟩ := r
  unfold fAny at hf
  split at hf
  · split at hf
    · rename_i ds bs eb
      cases r with
      | lst n ha ra =>
      rw [asBs_eq eb] at ra
      rw [DrA.of_bls ra] at ha
      exact ⟨_, bs, rfl, SqL.of ha, q _ _ H (Same.refl H) (.bl _) hf⟩
    · exact hf.elim
  · exact hf.elim
theorem de_all {K' : PySem.W.Frag} (hc : X.calm = true) (hm : X.mg "all" = none) (ha : DA X [e] t wa) (hg : Gl X "all" := by rfl) (he : starEach [e] X.env = (false, eval e X.env) :: starEach [] X.env := by rfl) (hpl : (backTo pos (starEach [] X.env)).any (·.1) = false := by rfl) (hK : X.K = K' := by rfl) :
    DE X (.Call (.Name "all" p) [e] [] pos) (tCB (rAll K') t) (wCall (f1 fAll) wa) := by
  subst hK
  exact de_cb (cr_all hc) cd_all hg hm (by decide +kernel) ha (he := he) (hpl := hpl)
theorem de_any {K' : PySem.W.Frag} (hc : X.calm = true) (hm : X.mg "any" = none) (ha : DA X [e] t wa) (hg : Gl X "any" := by rfl) (he : starEach [e] X.env = (false, eval e X.env) :: starEach [] X.env := by rfl) (hpl : (backTo pos (starEach [] X.env)).any (·.1) = false := by rfl) (hK : X.K = K' := by rfl) :
    DE X (.Call (.Name "any" p) [e] [] pos) (tCB (rAny K') t) (wCall (f1 fAny) wa) := by
  subst hK
  exact de_cb (cr_any hc) cd_any hg hm (by decide +kernel) ha (he := he) (hpl := hpl)
/-- max, min of two ints; int(n) -/
def fI2 (g : Int → Int → Int) : W2 := fI (fun _ _ => True) fun i j => .int (g i j)
theorem cd_int2 {g : Int → Int → Int} : CallD K (fun xs H Q => ∃ i j, xs = [.int i, .int j] ∧ Q (.int (g i j)) H) (f2 (fI2 g)) := by
  refine ⟨fun M H vs svs Q Φ p pv al r hf q => ?_⟩
  replace hf := f2_out hf
  obtain ⟨d, e, rfl, hf⟩ := hf
  replace r := args2 r
  obtain ⟨v, w, rfl, r1, r2⟩ := r
  replace hf := fI_out hf
  obtain ⟨i, j, rfl, rfl, _, hf⟩ := hf
  cases r1; cases r2
  exact ⟨i, j, rfl, q _ _ H (Same.refl H) (.int _) hf⟩
theorem de_max (hc : X.calm = true) (hm : X.mg "max" = none) (ha : DA X (e :: es) t wa) (hg : Gl X "max" := by rfl) (he : starEach (e :: es) X.env = (false, eval e X.env) :: starEach es X.env := by rfl) (hpl : (backTo pos (starEach es X.env)).any (·.1) = false := by rfl) :
    DE X (.Call (.Name "max" p) (e :: es) [] pos) (tCB (fun xs H Q => ∃ i j, xs = [.int i, .int j] ∧ Q (.int (if j > i then j else i)) H) t) (wCall (f2 (fI2 fun i j => if j > i then j else i)) wa) := de_cb (call_max2 hc) cd_int2 hg hm (by decide +kernel) ha (he := he) (hpl := hpl)
theorem de_min (hc : X.calm = true) (hm : X.mg "min" = none) (ha : DA X (e :: es) t wa) (hg : Gl X "min" := by rfl) (he : starEach (e :: es) X.env = (false, eval e X.env) :: starEach es X.env := by rfl) (hpl : (backTo pos (starEach es X.env)).any (·.1) = false := by rfl) :
    DE X (.Call (.Name "min" p) (e :: es) [] pos) (tCB (fun xs H Q => ∃ i j, xs = [.int i, .int j] ∧ Q (.int (if j < i then j else i)) H) t) (wCall (f2 (fI2 fun i j => if j < i then j else i)) wa) := de_cb (call_min2 hc) cd_int2 hg hm (by decide +kernel) ha (he := he) (hpl := hpl)
theorem cd_int1 : CallD K (fun xs H Q => (∃ i, xs = [.int i] ∧ Q (.int i) H) ∨ ∃ k, xs = [.bl k] ∧ Q (.int (if k then 1 else 0)) H) (f1 fun d Φ => asI d fun i => Φ (.int i)) := by
  refine ⟨fun M H vs svs Q Φ p pv al r hf q => ?_⟩
  replace hf := f1_out hf
  obtain ⟨d, rfl, hf⟩ := hf
  replace r := args1 r
  obtain ⟨v, rfl, r⟩ := r
  replace hf := asI_out hf
  obtain ⟨i, rfl, hf⟩ := hf
  cases r
  exact .inl ⟨i, rfl, q _ _ H (Same.refl H) (.int _) hf⟩
theorem de_intc (hm : X.mg "int" = none) (ha : DA X [e] t wa) (hg : Gl X "int" := by rfl) (he : starEach [e] X.env = (false, eval e X.env) :: starEach [] X.env := by rfl) (hpl : (backTo pos (starEach [] X.env)).any (·.1) = false := by rfl) :
    DE X (.Call (.Name "int" p) [e] [] pos) (tCB (fun xs H Q => (∃ i, xs = [.int i] ∧ Q (.int i) H) ∨ ∃ k, xs = [.bl k] ∧ Q (.int (if k then 1 else 0)) H) t) (wCall (f1 fun d Φ => asI d fun i => Φ (.int i)) wa) := de_ct call_int1 cd_int1 hg hm (by decide +kernel) ha (he := he) (hpl := hpl)

/-! ### isinstance of a built-in class -/
def tyN : PyData → String
  | .none => "NoneType"
  | .bool _ => "bool"
  | .int _ => "int"
  | .str _ => "str"
  | .list _ => "list"
  | .tuple _ => "tuple"
  | .dict _ => "dict"
theorem Dr.tyX {M : Addr → Prop} {H : Hp} {v : V} {d : PyData} (r : Dr K M H v d) : TyX K H v (.type (tyN d)) := by
  cases r with
  | non => exact .base .non
  | bl b => exact .base (.bl b)
  | int i => exact .base (.int i)
  | str x => exact .base (.str x)
  | lst n ha ra => exact .base (.lst ha)
  | tup ha ra =>
    rcases ha with (ha | ⟨o, ha⟩) | ⟨o, its, n, hk, hc, _⟩
    · exact .base (.tup ha)
    · exact .fTuple ha
    · exact .kTuple hk hc
  | dic n ha ra => exact .base (.dK ha)
/-- isinstance(e, T) -/
def fIsi (T : String) : PyData → (PyData → Prop) → Prop := fun d Φ => match kitB (tyN d) T with
  | some b => Φ (.bool b)
  | none => False
theorem de_isi {K' : PySem.W.Frag} {T : String} {y : Str} {p2 : Pos} (hm : X.mg "isinstance" = none) (hm2 : X.mg y = none) (he : DE X e te we) (hv2 : bootBuiltins y = some (.type T)) (hg : Gl X "isinstance" := by rfl) (hg2 : Gl X y := by rfl) (hn2 : y ≠ "__name__" := by decide) (hdb2 : (y == ("__debug__" : Str)) = false := by decide)
    (hs : starEach [e, .Name y p2] X.env = (false, eval e X.env) :: starEach [.Name y p2] X.env := by rfl) (hs2 : starEach [.Name y p2] X.env = (false, eval (.Name y p2) X.env) :: starEach [] X.env := by rfl) (hpl : (backTo pos (starEach [.Name y p2] X.env)).any (·.1) = false := by rfl) (hK : X.K = K' := by rfl) :
    DE X (.Call (.Name "isinstance" p) [e, .Name y p2] [] pos) (tCB (rIsi K') (tCons te (tCons (tC (.ty T)) tNil))) (wUn (fIsi T) we) := by
  subst hK
  refine ⟨pe_callB call_isi hg hm (by decide +kernel) (pa_cons he.pe (pa_cons (pe_bltn hg2 hm2 hv2 rfl hn2 hdb2) pa_nil hs2) hs) (he := hs) (hpl := hpl), ⟨fun C M H σ δ Q Φ I hw q => he.dt.run C M H σ δ _ _ I hw fun v d H1 x1 p1 r1 w1 => ?_⟩⟩
  unfold fIsi at w1
  split at w1
  · rename_i k ek
    exact ⟨v, .ty T, _, _, k, rfl, .ty T, r1.tyX, kit_ty ek, q _ _ H1 x1 p1 (.bl k) w1⟩
  · exact w1.elim

/-! ### items -/
theorem DrA.atI {M : Addr → Prop} {H : Hp} {vs : List V} {ds : List PyData} {i : Int} {d : PyData} (r : DrA K M H vs ds) (h : L2.atI ds i = some d) : ∃ v, L2.atI vs i = some v ∧ Dr K M H v d := by
  unfold L2.atI at h ⊢
  rw [r.length] at h
  cases q : ixN vs.length i with
  | none => rw [q] at h; cases h
  | some j =>
    rw [q] at h
    exact r.getD h
def fIx : W2 := fun d e Φ => match d, e with
  | .list ds, .int i => ∃ y, L2.atI ds i = some y ∧ Φ y
  | .tuple ds, .int i => ∃ y, L2.atI ds i = some y ∧ Φ y
  | .str z, .int i => z.length ≤ sizeLine ∧ ∃ c, L2.atI z.cps.toList i = some c ∧ Φ (.str ⟨#[c]⟩)
  | _, _ => False
theorem r2_ix : R2d K (rIx K) fIx := by
  intro M H x y d e Q Φ p pv al rx ry hf q
  unfold fIx at hf
  split at hf
  · obtain ⟨y, hy, hf⟩ := hf
    cases ry
    cases rx with
    | lst n ha ra =>
    obtain ⟨v, hv, rv⟩ := ra.atI hy
    exact .inl ⟨_, _, _, v, rfl, rfl, SqL.of ha, hv, q _ _ H (Same.refl H) rv hf⟩
  · obtain ⟨y, hy, hf⟩ := hf
    cases ry
    cases rx with
    | tup ha ra =>
    obtain ⟨v, hv, rv⟩ := ra.atI hy
    exact .inr (.inl ⟨_, _, _, v, rfl, rfl, ha, hv, q _ _ H (Same.refl H) rv hf⟩)
  · obtain ⟨hz, c, hy, hf⟩ := hf
    cases ry
    cases rx
    exact .inr (.inr ⟨_, _, c, rfl, rfl, hz, hy, q _ _ H (Same.refl H) (.str _) hf⟩)
  · exact hf.elim
theorem de_ix {K' : PySem.W.Frag} (ha : DE X a ta wa') (hb : DE X b tb wb) (hs : PlainIx b := by exact fun _ _ => rfl) (hK : X.K = K' := by rfl) : DE X (.Subscript a b pos) (tOp (rIx K') ta tb) (wOp fIx wa' wb) := by
  subst hK
  exact ⟨pe_ix ix_seq ha.pe hb.pe hs, det_op r2_ix ha.dt hb.dt⟩

/-! ### slices -/
abbrev WO := Dl → (Option Int → Prop) → Prop
structure DO (X : Cx) (e : Option Expr) (t : TO) (w : WO) : Prop where
  pe : PO X e t
  run : ∀ C M H σ δ Q Φ, Ok X.K C M H σ δ → w δ Φ → (∀ o H', ExtP C.p H H' → PenV X.K M H' C.p → Φ o → Q o H') → t σ H Q
theorem do_none : DO X none tNoPart (fun _ Φ => Φ none) := ⟨po_none, fun C M H σ δ Q Φ I hw q => q none H ExtP.refl I.pen hw⟩
theorem do_some (h : DE X e te we) : DO X (some e) (tPart te) (fun δ Φ => we δ fun d => asI d fun i => Φ (some i)) :=
  ⟨po_some h.pe, fun C M H σ δ Q Φ I hw q => h.dt.run C M H σ δ _ _ I hw fun v d H1 x1 p1 r1 w1 => by
    obtain ⟨i, rfl, w1⟩ := asI_out w1
    cases r1
    exact ⟨i, rfl, q _ H1 x1 p1 w1⟩⟩
def cutD {α : Type} (xs : List α) (lo hi : Option Int) : List α := (xs.drop (HT.sIx xs.length 0 lo)).take (HT.sIx xs.length xs.length hi - HT.sIx xs.length 0 lo)
theorem DrA.cut {M : Addr → Prop} {H : Hp} {vs : List V} {ds : List PyData} (r : DrA K M H vs ds) (lo hi : Option Int) : DrA K M H (cutV vs lo hi) (cutD ds lo hi) := by
  unfold cutV cutD
  rw [r.length]
  exact (r.drop _).take _
def fSl : PyData → Option Int → Option Int → (PyData → Prop) → Prop := fun d lo hi Φ => match d with
  | .list ds => Φ (.list (cutD ds lo hi))
  | .tuple ds => Φ (.tuple (cutD ds lo hi))
  | .str z => z.length ≤ sizeLine ∧ Φ (.str (cutS z lo hi))
  | _ => False
def rSlD (K : PySem.W.Frag) : V → Option Int → Option Int → Hp → VK → Prop := fun x lo hi H Q => rSlL K x lo hi H Q ∨ (rSlA K x lo hi H Q ∨ rSlS x lo hi H Q)
theorem sl_D : SlR X (rSlD X.K) := sl_list.or (sl_tupA.or sl_str)
def wSl (we : WE) (wl wh : WO) : WE := fun δ Φ => we δ fun d => wl δ fun lo => wh δ fun hi => fSl d lo hi Φ
theorem cut_whole {α : Type} {xs : List α} {lo hi : Option Int} (h : HT.sIx xs.length 0 lo = 0 ∧ HT.sIx xs.length xs.length hi = xs.length) : cutD xs lo hi = xs := by
  unfold cutD
  rw [h.1, h.2]
  simp
theorem de_sl {K' : PySem.W.Frag} {lo hi : Option Expr} {tl th : TO} {wl wh : WO} {p2 : Pos} (he : DE X e te we) (hl : DO X lo tl wl) (hh : DO X hi th wh) (hK : X.K = K' := by rfl) : DE X (.Subscript e (.Slice lo hi none p2) pos) (tSl (rSlD K') te tl th) (wSl we wl wh) := by
  subst hK
  refine ⟨pe_slice sl_D he.pe hl.pe hh.pe, ⟨fun C M H σ δ Q Φ I hw q => he.dt.run C M H σ δ _ _ I hw fun v d H1 x1 p1 r1 w1 => ?_⟩⟩
  have I1 := I.next x1 p1
  refine hl.run C M H1 σ δ _ _ I1 w1 fun l H2 x2 p2 w2 => ?_
  have I2 := I1.next x2 p2
  refine hh.run C M H2 σ δ _ _ I2 w2 fun u H3 x3 p3 w3 => ?_
  have I3 := I2.next x3 p3
  have r3 := (r1.stays (x2.stays p1)).stays (x3.stays p2)
  have x13 := (x1.trans x2).trans x3
  unfold fSl at w3
  split at w3
  · cases r3 with
    | lst n ha ra =>
    exact .inl ⟨_, _, rfl, SqL.of ha, fun p hp => q _ _ _ (x13.trans (ExtP.new hp)) (p3.new hp) (.lst (I3.freshM hp) upd_same ((ra.cut l u).stays (Stays.of_same (same_new hp)))) w3⟩
  · cases r3 with
    | tup ha ra =>
    refine .inr (.inl ⟨_, _, rfl, ha, fun z => ?_, fun z p hp => ?_⟩)
    · rw [← ra.length] at z
      rw [cut_whole z] at w3
      exact q _ _ H3 x13 p3 (.tup ha ra) w3
    · exact q _ _ _ (x13.trans (ExtP.new hp)) (p3.new hp) (.tup (SqT.of upd_same) ((ra.cut l u).stays (Stays.of_same (same_new hp)))) w3
  · cases r3
    exact .inr (.inr ⟨_, rfl, w3.1, q _ _ H3 x13 p3 (.str _) w3.2⟩)
  · exact w3.elim
/-- xs[::-1], a list -/
theorem de_revL {K' : PySem.W.Frag} {k : Nat} {p1 p2 p3 : Pos} (he : DE X e te we) (hK : X.K = K' := by rfl) : DE X (.Subscript e (.Slice none none (some (.UnaryOp .USub (.Constant (.int 1) k p1) p2)) p3) pos) (tRevL K' te)
    (fun δ Φ => we δ fun d => match d with
      | .list ds => Φ (.list ds.reverse)
      | _ => False) := by
  subst hK
  refine ⟨pe_revL he.pe, ⟨fun C M H σ δ Q Φ I hw q => he.dt.run C M H σ δ _ _ I hw fun v d H1 x1 p1 r1 w1 => ?_⟩⟩
  have I1 := I.next x1 p1
  split at w1
  · cases r1 with
    | lst n ha ra =>
    exact ⟨_, _, rfl, SqL.of ha, fun p hp => q _ _ _ (x1.trans (ExtP.new hp)) (p1.new hp) (.lst (I1.freshM hp) upd_same (ra.reverse.stays (Stays.of_same (same_new hp)))) w1⟩
  · exact w1.elim
end

/-! ### promises over data -/
abbrev WFn := List SV → (PyData → Prop) → Prop
def spD (K : PySem.W.Frag) (n : Nat) (w : WFn) : Sp := fun vs H Q _ => ∃ (M : Addr → Prop) (p : Option Addr) (svs : List SV) (Φ : PyData → Prop), vs.length = n ∧ ArgsOk K p M H vs svs ∧
  (∀ a, M a → ∃ o, H a = some o) ∧ PenV K M H p ∧ w svs Φ ∧ ∀ v d H', ExtP p H H' → PenV K M H' p → Dr K M H' v d → Φ d → Q v H'
section
variable {X : Cx} {K : PySem.W.Frag} {e : Expr} {es : List Expr} {t : TA} {wa : WA} {pos p : Pos} {x : Str}
theorem det_call {n : Nat} {w : WFn} {E : XK} (h : DAt K t wa) : DEt K (tCall (spD K n w) [] E t) (fun δ Φ => wa δ fun svs => svs.length = n ∧ w svs Φ) := by
  refine ⟨fun C M H σ δ Q Φ I hw q => h.run C M H σ δ _ _ I hw fun vs svs H1 x1 p1 r1 w1 => ?_⟩
  have I1 := I.next x1 p1
  rw [List.append_nil]
  exact ⟨M, C.p, svs, Φ, by rw [← r1.length]; exact w1.1, r1, I1.alive, p1, w1.2, fun v d H2 x2 p2 r2 hf => q v d H2 (x1.trans x2) p2 r2 hf⟩
/-- the call of a def that keeps a promise over data -/
theorem de_call {k n : Nat} {f : Addr} {fd : FuncData} {ps : List Str} {w : WFn} (F : FnG X.prog X.w X.K X.mg X.base CX0 k f fd ps (spD X.K n w)) (hr : Room k X.A) (gd : X.A.guards = some [])
    (hm : X.mg x = some (.ref f)) (hk : PySem.W.keepIn X.K (.ref f) = true) (hb : Binds X.K fd ps []) (ha : DA X (e :: es) t wa) (hg : Gl X x := by rfl) (hdb : (x == ("__debug__" : Str)) = false := by decide)
    (he : starEach (e :: es) X.env = (false, eval e X.env) :: starEach es X.env := by rfl) (hpl : (backTo pos (starEach es X.env)).any (·.1) = false := by rfl) :
    DE X (.Call (.Name x p) (e :: es) [] pos) (tCall (spD X.K n w) [] E0 t) (fun δ Φ => wa δ fun svs => svs.length = n ∧ w svs Φ) :=
  ⟨pe_callG F hr gd hg hm hk hb .nil pass0 ha.pe hdb he hpl, det_call ha.dt⟩
theorem start_sAt {N : List Str} {vs : List V} {i : Nat} (h : i < vs.length) : sAt (L2.start N vs) i = vs[i]? := by
  unfold sAt L2.start
  rw [List.getElem?_append_left (by simpa using h), List.getElem?_map, List.getElem?_eq_getElem h]
  rfl
theorem argOk_slot {C : Ct} {M : Addr → Prop} {H : Hp} {v : V} {sv : SV} (h : ArgOk K C.p M H v sv) : SlotOk K C M H (some v) sv ∧ ∀ ds, sv ≠ .own ds := by
  cases sv with
  | un => exact h.elim
  | d x => exact ⟨⟨v, rfl, h⟩, fun _ z => nomatch z⟩
  | pen => obtain ⟨q, e, rfl⟩ := h; exact ⟨⟨q, e, rfl⟩, fun _ z => nomatch z⟩
  | own ds => exact h.elim
  | raw u => cases (show v = u from h); exact ⟨rfl, fun _ z => nomatch z⟩
  | lenL n => exact h.elim
  | kd P w ps => exact h.elim
  | ownD kd => exact h.elim
theorem ArgsOk.get {pp : Option Addr} {M : Addr → Prop} {H : Hp} : ∀ {vs : List V} {svs : List SV} {i : Nat} {sv : SV}, ArgsOk K pp M H vs svs → svs[i]? = some sv → ∃ v, vs[i]? = some v ∧ ArgOk K pp M H v sv
  | _, _, _, _, .nil, e => by simp at e
  | _, _, 0, _, .cons h _, e => by simp at e; subst e; exact ⟨_, rfl, h⟩
  | _, _, i + 1, _, .cons _ t, e => ArgsOk.get (i := i) t (by simpa using e)
/-- the state at a def's entry -/
theorem Ok.entry {N : List Str} {vs : List V} {svs : List SV} {M : Addr → Prop} {pp : Option Addr} {H : Hp} (r : ArgsOk K pp M H vs svs) (al : ∀ a, M a → ∃ o, H a = some o) (pv : PenV K M H pp) :
    Ok K ⟨M, pp, H⟩ M H (L2.start N vs) (svs ++ List.replicate (N.length - vs.length) .un) := by
  have own_no : ∀ (j : Nat) (ds : List PyData), (svs ++ List.replicate (N.length - vs.length) SV.un)[j]? ≠ some (SV.own ds) := fun j ds e => by
    by_cases hj : j < svs.length
    · rw [List.getElem?_append_left hj] at e
      obtain ⟨v, _, h⟩ := r.get e
      exact h
    · rw [List.getElem?_append_right (by omega), List.getElem?_replicate] at e
      split at e <;> cases e
  refine ⟨?_, fun i sv e => ?_, fun i j a ds es e1 _ _ _ => absurd e1 (own_no i ds), ExtP.refl, fun _ m => m, al, pv, fun q z => ?_, al⟩
  · unfold L2.start
    rw [List.length_append, List.length_append, List.length_replicate, List.length_map, List.length_replicate, r.length]
  · by_cases hi : i < svs.length
    · rw [List.getElem?_append_left hi] at e
      obtain ⟨v, hv, h⟩ := r.get e
      rw [start_sAt (by rw [← r.length]; exact hi), hv]
      exact (argOk_slot (C := ⟨M, pp, H⟩) h).1
    · rw [List.getElem?_append_right (by omega), List.getElem?_replicate] at e
      split at e
      · cases e; trivial
      · cases e
  · obtain ⟨_, g, s, b, ns, e, _⟩ := pv q z
    exact ⟨_, e⟩
/-- THE RULE for a def over data -/
theorem fn_d {P : Program} {w : World} {K : PySem.W.Frag} {mg : Str → Option Value} {base : Heap} {k : Nat} {f : Addr} {fd : FuncData} {x qual : Str} {st : Stmt} {N ps : List Str} {wf : WFn}
    (F : Fun K x qual st f fd) (S : FnScope N ps (defScope st))
    (hbody : ∀ (cdv : Value) (A : Around) (outer : List Env) (s : Shared) (H : Hp) (E : XK), Room k (A.deeper (envOfC qual (defScope st) s.heap.objs.size f cdv)) → A.guards = some [] →
      ∃ t wb, DSs (cxOf CX0 P w K mg base N qual (defScope st) f cdv A outer s H E).nox (defBody st) t wb ∧
        ∀ svs Φ, svs.length = ps.length → wf svs Φ → wb { nx := fun _ => Φ .none, rt := Φ } (svs ++ List.replicate (N.length - ps.length) .un)) :
    FnG P w K mg base CX0 (k + 1) f fd ps (spD K ps.length wf) := by
  refine fnG_ok F S (fun vs H Q E h => ?_) fun cdv A outer s H vs Q E hr gd h => ?_
  · obtain ⟨M, p, svs, Φ, hl, _⟩ := h
    exact hl
  · obtain ⟨M, p, svs, Φ, hl, ra, al, pv, hw, q⟩ := h
    obtain ⟨t, wb, hb, hv⟩ := hbody cdv A outer s H E hr gd
    refine ⟨t, hb.pe, ?_⟩
    have h1 := hv svs Φ (by rw [ra.length]; exact hl) hw
    rw [← hl] at h1
    refine hb.dt.run ⟨M, p, H⟩ M H _ _ _ _ (Ok.entry (N := N) ra al pv) h1 ⟨fun M' σ' δ' H' I t q' => ?_, fun _ _ _ _ _ _ z => z.elim, fun _ _ _ _ _ _ z => z.elim, fun M' σ' δ' H' v d I t r q' => ?_⟩
    · refine q .non .none H' I.ext (fun z e => ?_) .non q'
      obtain ⟨m, g, s, b, ns, e1, r1, h1, h2⟩ := I.pen z e
      exact ⟨(pv z e).1, g, s, b, ns, e1, r1.less I.sub, h1, h2⟩
    · refine q v d H' I.ext (fun z e => ?_) (r.less I.sub) q'
      obtain ⟨m, g, s, b, ns, e1, r1, h1, h2⟩ := I.pen z e
      exact ⟨(pv z e).1, g, s, b, ns, e1, r1.less I.sub, h1, h2⟩
end
end DL
/-! the pen; lists or tuples walked; sets of ints; repr; t[::-1]; a def by its name -/
namespace DL
open PySem PySem.Spec PyProof.Rows L2

/-! ### the pen: [the given list, a place, a bank], the ints not negative -/
section
variable {X : Cx} {K : PySem.W.Frag} {te : TE} {we : WE} {pos : Pos}
def wPen (i : Nat) (k : Int) : WE := fun δ Φ => match δ[i]? with
  | some .pen => if k = 0 then ∀ ns : List Int, ns.length ≤ sizeLine → Φ (.list (ns.map .int)) else (k = 1 ∨ k = 2) ∧ ∀ b : Int, 0 ≤ b → Φ (.int b)
  | _ => False
end
/-- a list's length is bounded: read where the state is known -/
def rIxP (K : PySem.W.Frag) : R2 := fun x y H Q => ∃ (p g : Addr) (s b i : Int) (ns : List Int), x = .ref p ∧ y = .int i ∧ H p = some (.lst [.ref g, .int s, .int b]) ∧ H g = some (.lst (ns.map V.int)) ∧
  ((i = 0 ∧ (ns.length ≤ sizeLine → Q (.ref g) H)) ∨ (i = 1 ∧ Q (.int s) H) ∨ (i = 2 ∧ Q (.int b) H))
section
variable {X : Cx} {K : PySem.W.Frag} {te : TE} {we : WE} {pos : Pos}
theorem ix_pen : IxR X (rIxP X.K) := by
  intro value slice pins s σ H x y v u Q I rx ry h hs
  obtain ⟨p, g, sv, b, i, ns, rfl, rfl, hp, hg, h⟩ := h
  have hz : ns.length ≤ sizeLine := by
    obtain ⟨z, _⟩ := I.hok g _ hg
    rw [List.length_map] at z
    exact z
  rcases h with ⟨rfl, q⟩ | ⟨rfl, q⟩ | ⟨rfl, q⟩
  · exact ix_list value slice pins s σ H _ _ v u Q I rx ry ⟨p, _, _, _, rfl, rfl, SqL.of hp, atI_nat (j := 0) rfl, q hz⟩ hs
  · exact ix_list value slice pins s σ H _ _ v u Q I rx ry ⟨p, _, _, _, rfl, rfl, SqL.of hp, atI_nat (j := 1) rfl, q⟩ hs
  · exact ix_list value slice pins s σ H _ _ v u Q I rx ry ⟨p, _, _, _, rfl, rfl, SqL.of hp, atI_nat (j := 2) rfl, q⟩ hs
theorem de_pen {K' : PySem.W.Frag} (i : Nat) {k : Int} {x : Str} {p1 : Pos} {j : Nat} {p2 : Pos} (hN : X.N[i]? = some x := by rfl)
    (hv : Vis X.env.scope x := by first | exact Or.inl rfl | exact Or.inr (Or.inl rfl) | exact Or.inr (Or.inr rfl))
    (hd : (x == ("__debug__" : Str)) = false := by decide) (hcd : (x == ("__classdict__" : Str)) = false := by decide) (hK : X.K = K' := by rfl) : DE X (.Subscript (.Name x p1) (.Constant (.int k) j p2) pos) (tOp (rIxP K') (tVar i) (tC (.int k))) (wPen i k) := by
  subst hK
  refine ⟨pe_ix ix_pen (pe_var hN hv hd hcd) pe_int (fun _ _ => rfl), ⟨fun C M H σ δ Q Φ I hw q => ?_⟩⟩
  unfold wPen at hw
  split at hw
  · rename_i e
    obtain ⟨a, e0, e1⟩ := I.slot i _ e
    obtain ⟨m, g, s, b, ns, ha, rg, hs, hb⟩ := I.pen a e0
    have rg' := rg
    cases rg with
    | lst n hg ra =>
    rw [DrA.of_ints ra] at hg
    refine ⟨_, sAt_some e1, a, g, s, b, k, ns, rfl, rfl, ha, hg, ?_⟩
    split at hw
    · rename_i hk
      exact .inl ⟨hk, fun hz => q _ _ H ExtP.refl I.pen rg' (hw ns hz)⟩
    · obtain ⟨hk, hw⟩ := hw
      rcases hk with rfl | rfl
      · exact .inr (.inl ⟨rfl, q _ _ H ExtP.refl I.pen (.int _) (hw s hs)⟩)
      · exact .inr (.inr ⟨rfl, q _ _ H ExtP.refl I.pen (.int _) (hw b hb)⟩)
  · exact hw.elim
/-- pen[1] = e, pen[2] = e -/
def wPenSet (i : Nat) (k : Int) (we : WE) : WS := fun Φ δ => match δ[i]? with
  | some .pen => (k = 1 ∨ k = 2) ∧ we δ fun d => asI d fun b => 0 ≤ b ∧ Φ.nx δ
  | _ => False
theorem dst_penSet {i : Nat} {k : Int} (h : DEt K te we) : DSt K (tAsg te (gSub (tVar i) (tC (.int k)) rSetL)) (wPenSet i k we) := by
  refine ⟨fun C M H σ δ D Φ I hw c => ?_⟩
  unfold wPenSet at hw
  split at hw
  · rename_i e
    obtain ⟨hk, hw⟩ := hw
    refine h.run C M H σ δ _ _ I hw fun v d H1 x1 p1 r1 w1 => ?_
    obtain ⟨z, rfl, hz, w1⟩ := asI_out w1
    cases r1
    have I1 := I.next x1 p1
    obtain ⟨a, e0, e1⟩ := I1.slot i _ e
    obtain ⟨m, g, s, b, ns, ha, rg, hs, hb⟩ := I1.pen a e0
    refine ⟨_, sAt_some e1, ?_⟩
    have go : ∀ s' b' : Int, 0 ≤ s' → 0 ≤ b' → D.nx σ (upd H1 a (.lst [.ref g, .int s', .int b'])) := fun s' b' hs' hb' => by
      have st : Stays M H1 (upd H1 a (.lst [.ref g, .int s', .int b'])) := fun b o e n => by
        by_cases z : b = a
        · subst z
          rw [ha] at e; cases e
          exact absurd m (n rfl)
        · rw [upd_ne z]; exact e
      have xx : ExtP C.p H1 (upd H1 a (.lst [.ref g, .int s', .int b'])) := fun b o e n => by
        rw [upd_ne fun z => n (by rw [z]; exact e0)]
        exact e
      have pv : PenV K M (upd H1 a (.lst [.ref g, .int s', .int b'])) C.p := fun q z => by
        have eq : q = a := Option.some.inj (z.symm.trans e0)
        subst eq
        exact ⟨m, g, s', b', ns, upd_same, rg.stays st, hs', hb'⟩
      exact c.nx M σ δ _ (I1.next xx pv) ((Tr.of_ext I.pen x1).trans fun v d r => r.stays st) w1
    rcases hk with rfl | rfl
    · exact ⟨a, _, _, 1, rfl, rfl, ha, rfl, go z b hz hb⟩
    · exact ⟨a, _, _, 2, rfl, rfl, ha, rfl, go s z hs hz⟩
  · exact hw.elim
theorem ds_penSet (i : Nat) {k : Int} {x : Str} {e : Expr} {p1 p2 p3 : Pos} {j : Nat} (he : DE X e te we) (hN : X.N[i]? = some x := by rfl)
    (hv : Vis X.env.scope x := by first | exact Or.inl rfl | exact Or.inr (Or.inl rfl) | exact Or.inr (Or.inr rfl))
    (hd : (x == ("__debug__" : Str)) = false := by decide) (hcd : (x == ("__classdict__" : Str)) = false := by decide)
    (hs : swapsWithSole [.Subscript (.Name x p1) (.Constant (.int k) j p2) p3] e pos.line X.env = pure false := by rfl) (hw : swappedStores [.Subscript (.Name x p1) (.Constant (.int k) j p2) p3] e X.env = pure none := by rfl)
    (h1 : (assignEach [.Subscript (.Name x p1) (.Constant (.int k) j p2) p3] X.env).map (·.2) = [assign (.Subscript (.Name x p1) (.Constant (.int k) j p2) p3) X.env] := by rfl) :
    DS X (.Assign [.Subscript (.Name x p1) (.Constant (.int k) j p2) p3] e pos) (tAsg te (gSub (tVar i) (tC (.int k)) rSetL)) (wPenSet i k we) :=
  ⟨ps_asg he.pe (pg_sub (pe_var hN hv hd hcd) pe_int set_list) hs hw h1, dst_penSet he.dt⟩
end

/-! ### a list or a tuple, walked -/
section
variable {X : Cx} {K : PySem.W.Frag} {tg e : Expr} {te : TE} {we : WE}
def iSeq (K : PySem.W.Frag) (tl : TE) : TI := fun σ H R => tl σ H fun x H1 => ∃ a, x = .ref a ∧ (((∃ xs, SqL K H1 a xs) ∧ R (Itl K a) H1) ∨ ((∃ xs, SqT K H1 a xs) ∧ R (Itt K a) H1))
theorem pi_seq (he : PE X e te) : PI X tg e (iSeq X.K te) := by
  constructor
  intro pins s σ H R I h
  refine thn (he.run pins s σ H _ I h) ?_
  rintro v s1 ⟨x, H1, I1, r1, a, rfl, q⟩
  cases r1
  have kp : ∀ (o : Obj), ∀ b u, s1.heap.get? b = some u → (s1.heap.push o).get? b = some u := fun o b u e => Heap.get?_push_of_some _ e
  have fpk : ∀ b ∈ [s1.heap.objs.size], FpOk X pins H1 b := fun b hb => by
    have e : b = s1.heap.objs.size := by simpa using hb
    subst e
    exact I1.fpOk (Nat.le_refl _) (I1.hok.fresh (Nat.le_refl _))
  rcases q with ⟨⟨xs, hq⟩, q⟩ | ⟨⟨xs, hq⟩, q⟩
  · obtain ⟨its, rv, pl, hz⟩ := I1.list hq
    apply wpAny_pyIter_list pl.isList
    exact ⟨_, [s1.heap.objs.size], _, _, H1, rfl, I1.kept (t' := s1.toks) (kp _), turn_list a _, ⟨_, Heap.get?_push_size _ rfl, rfl, rfl⟩, fpk, q⟩
  · obtain ⟨its, rv, pl, hz⟩ := I1.tuple hq
    apply wpAny_pyIter_tuple (show s1.heap.IsTuple a its.toArray from pl)
    exact ⟨_, [s1.heap.objs.size], _, _, H1, rfl, I1.kept (t' := s1.toks) (kp _), turn_tuple a _, ⟨_, Heap.get?_push_size _ rfl, rfl, rfl⟩, fpk, q⟩
def wIS (we : WE) : WI := fun δ Ψ => we δ fun d => match d with
  | .list ds => Ψ ds
  | .tuple ds => Ψ ds
  | _ => False
theorem di_seq {K' : PySem.W.Frag} (he : DE X e te we) (hK : X.K = K' := by rfl) : DI X tg e (iSeq K' te) (wIS we) := by
  subst hK
  refine ⟨pi_seq he.pe, ⟨fun C M H σ δ R Ψ I hw q => he.dt.run C M H σ δ _ _ I hw fun v d H' x p r hd => ?_⟩⟩
  split at hd
  · have r' := r
    cases r with
    | lst n ha ra => exact ⟨_, rfl, .inl ⟨⟨_, SqL.of ha⟩, q _ _ _ H' x p itd_list r' hd⟩⟩
  · have r' := r
    cases r with
    | tup ha ra => exact ⟨_, rfl, .inr ⟨⟨_, ha⟩, q _ _ _ H' x p itd_tup r' hd⟩⟩
  · exact hd.elim
end

/-! ### sets of ints -/
/-- the ints of a list, each once, as a strictly rising list -/
def insD (x : Int) : List Int → List Int
  | [] => [x]
  | y :: r => if x < y then x :: y :: r else if x = y then y :: r else y :: insD x r
def sortD : List Int → List Int
  | [] => []
  | x :: r => insD x (sortD r)
theorem mem_insD {x k : Int} : ∀ {l : List Int}, k ∈ insD x l ↔ k = x ∨ k ∈ l
  | [] => by simp [insD]
  | y :: r => by
    unfold insD
    split
    · simp
    · split
      · rename_i h1 h2
        subst h2
        simp
      · simp only [List.mem_cons, mem_insD (l := r)]
        constructor
        · rintro (h | h | h)
          · exact .inr (.inl h)
          · exact .inl h
          · exact .inr (.inr h)
        · rintro (h | h | h)
          · exact .inr (.inl h)
          · exact .inl h
          · exact .inr (.inr h)
theorem insD_up {x : Int} : ∀ {l : List Int}, l.Pairwise (· < ·) → (insD x l).Pairwise (· < ·)
  | [], _ => by simp [insD]
  | y :: r, h => by
    have h' := List.pairwise_cons.mp h
    unfold insD
    split
    · rename_i hx
      refine List.pairwise_cons.mpr ⟨fun z hz => ?_, h⟩
      rcases List.mem_cons.mp hz with rfl | hz
      · exact hx
      · have := h'.1 z hz
        omega
    · split
      · exact h
      · rename_i h1 h2
        refine List.pairwise_cons.mpr ⟨fun z hz => ?_, insD_up h'.2⟩
        rcases mem_insD.mp hz with rfl | hz
        · omega
        · exact h'.1 z hz
theorem mem_sortD {k : Int} : ∀ {l : List Int}, k ∈ sortD l ↔ k ∈ l
  | [] => by simp [sortD]
  | x :: r => by
    show k ∈ insD x (sortD r) ↔ _
    rw [mem_insD, mem_sortD (l := r), List.mem_cons]
theorem sortD_up : ∀ l : List Int, (sortD l).Pairwise (· < ·)
  | [] => .nil
  | x :: r => insD_up (sortD_up r)
/-- a strictly rising list is known by its members -/
theorem up_unique : ∀ {l m : List Int}, l.Pairwise (· < ·) → m.Pairwise (· < ·) → (∀ k, k ∈ l ↔ k ∈ m) → l = m
  | [], [], _, _, _ => rfl
  | [], y :: m, _, _, h => by have := (h y).mpr (by simp); simp at this
  | x :: l, [], _, _, h => by have := (h x).mp (by simp); simp at this
  | x :: l, y :: m, hl, hm, h => by
    have hl' := List.pairwise_cons.mp hl
    have hm' := List.pairwise_cons.mp hm
    have e : x = y := by
      have h1 : x ∈ y :: m := (h x).mp (by simp)
      have h2 : y ∈ x :: l := (h y).mpr (by simp)
      rcases List.mem_cons.mp h1 with e | h1
      · exact e
      · rcases List.mem_cons.mp h2 with e | h2
        · exact e.symm
        · have a := hm'.1 x h1
          have b := hl'.1 y h2
          omega
    subst e
    rw [up_unique hl'.2 hm'.2 fun k => ?_]
    constructor
    · intro hk
      rcases List.mem_cons.mp ((h k).mp (List.mem_cons_of_mem _ hk)) with e | z
      · have := hl'.1 k hk
        omega
      · exact z
    · intro hk
      rcases List.mem_cons.mp ((h k).mpr (List.mem_cons_of_mem _ hk)) with e | z
      · have := hm'.1 k hk
        omega
      · exact z
theorem insD_len {x : Int} : ∀ l : List Int, (insD x l).length ≤ l.length + 1
  | [] => by simp [insD]
  | y :: r => by
    unfold insD
    split
    · simp
    · split
      · simp
      · have := insD_len (x := x) r
        simp only [List.length_cons]
        omega
theorem sortD_len : ∀ l : List Int, (sortD l).length ≤ l.length
  | [] => Nat.le_refl _
  | x :: r => by
    have h1 := insD_len (x := x) (sortD r)
    have h2 := sortD_len r
    show (insD x (sortD r)).length ≤ r.length + 1
    omega
section
variable {X : Cx} {K : PySem.W.Frag} {e : Expr} {te : TE} {we : WE} {p p2 q pos : Pos}
/-- sorted(set(t)), t a tuple of ints, fewer than 64 -/
def tSortSet (K : PySem.W.Frag) (te : TE) : TE := fun σ H Q => te σ H fun x H1 => ∃ (l : Addr) (ns : List Int), x = .ref l ∧ SqT K H1 l (ns.map V.int) ∧ ns.length < 64 ∧ ∀ H2 q, Same H1 H2 → H2 q = none → Q (.ref q) (upd H2 q (.lst ((sortD ns).map V.int)))
theorem pe_sortSet (hc : X.calm = true) (hg : Gl X "sorted") (hm : X.mg "sorted" = none) (hg2 : Gl X "set") (hm2 : X.mg "set" = none) (ha : PE X e te)
    (na : starEach [e] X.env = (false, eval e X.env) :: starEach [] X.env := by rfl) : PE X (.Call (.Name "sorted" p) [.Call (.Name "set" p2) [e] [] q] [] pos) (tSortSet X.K te) := by
  constructor
  intro pins s σ H Q I h
  refine Call_ (ld_blt (u := .builtin "sorted") I hg hm (by decide +kernel) ?_)
  refine PyProof.Rows.callWith_builtin1 (PyProof.Rows.args_cons ?_ rfl) rfl rfl
  refine Call_ (ld_blt I hg2 hm2 boot_set ?_)
  refine PyProof.Rows.callWith_type1 (PyProof.Rows.args_cons ?_ na) na rfl
  refine thn (ha.run pins s σ H _ I h) ?_
  rintro v s1 ⟨x, H1, I1, r1, l, ns, rfl, hq, hl, q1⟩
  cases r1
  apply PyProof.Rows.args_nil
  obtain ⟨its, r, pl, hz⟩ := I1.tuple hq
  refine call_set_tupI ns (I1.ok.hd hc) (show s1.heap.IsTuple l its.toArray from pl) (by simpa using RZ.intsAre_vals r) (by unfold scanBound; omega) ?_
  intro h' tk c hS hcl hk
  apply PyProof.Rows.args_nil
  have hp : H1 s1.heap.objs.size = none := I1.hok.fresh (Nat.le_refl _)
  have I2 : Inv X pins σ (upd H1 s1.heap.objs.size (SetO X.w s1.heap.objs.size (fun j => decide (j ∈ ns)) c)) { s1 with heap := h', toks := tk } :=
    I1.laid (t' := tk) hk (Nat.le_refl _) (setO_new hS)
  refine cr_sortedSet hc pins _ σ _ [.ref s1.heap.objs.size] _ Q I2 (.cons rfl .nil) ⟨_, _, _, rfl, upd_same, by omega, fun ms b hms hmem hlen hb => ?_⟩
  have e : ms = sortD ns := up_unique hms (sortD_up ns) fun k => by rw [hmem k, mem_sortD, decide_eq_true_iff]
  subst e
  exact q1 _ b (same_new hp) hb
def wSortSet (we : WE) : WE := fun δ Φ => we δ fun d => ∃ ns : List Int, d = .tuple (ns.map .int) ∧ ns.length < 64 ∧ Φ (.list ((sortD ns).map .int))
theorem Ok.stillFresh {C : Ct} {M : Addr → Prop} {H H2 : Hp} {σ : Sl} {δ : Dl} (I : Ok K C M H σ δ) (sm : Same H H2) {q : Addr} (h : H2 q = none) : ¬ M q := fun m => by
  obtain ⟨o, z⟩ := I.alive q m
  have := sm _ _ z
  rw [h] at this; cases this
theorem de_sortSet {K' : PySem.W.Frag} (hc : X.calm = true) (hm : X.mg "sorted" = none) (hm2 : X.mg "set" = none) (ha : DE X e te we) (hg : Gl X "sorted" := by rfl) (hg2 : Gl X "set" := by rfl)
    (na : starEach [e] X.env = (false, eval e X.env) :: starEach [] X.env := by rfl) (hK : X.K = K' := by rfl) : DE X (.Call (.Name "sorted" p) [.Call (.Name "set" p2) [e] [] q] [] pos) (tSortSet K' te) (wSortSet we) := by
  subst hK
  refine ⟨pe_sortSet hc hg hm hg2 hm2 ha.pe na, ⟨fun C M H σ δ Q Φ I hw qq => ha.dt.run C M H σ δ _ _ I hw fun v d H1 x1 p1 r1 w1 => ?_⟩⟩
  have I1 := I.next x1 p1
  obtain ⟨ns, rfl, hl, hf⟩ := w1
  cases r1 with
  | tup ha ra =>
  rw [DrA.of_ints ra] at ha
  refine ⟨_, ns, rfl, ha, hl, fun H2 b sm hb => ?_⟩
  have nM : ¬ M b := I1.stillFresh sm hb
  exact qq _ _ _ (x1.trans ((ExtP.of_same sm).trans (ExtP.new hb))) ((p1.stay sm).new hb) (.lst nM upd_same (DrA.ints _)) hf
/-- len(set(xs)), xs a list of ints -/
def tLenSetD (K : PySem.W.Frag) (ta : TE) : TE := fun σ H Q => ta σ H fun x H1 => ∃ (l : Addr) (ns : List Int), x = .ref l ∧ SqL K H1 l (ns.map V.int) ∧ ns.length ≤ 4000 ∧ Q (.int ((sortD ns).length : Nat)) H1
theorem dedup_mem : ∀ (l acc : List Int) (k : Int), k ∈ l.foldl step_dedup acc ↔ k ∈ acc ∨ k ∈ l
  | [], acc, k => by simp
  | x :: l, acc, k => by
    rw [List.foldl_cons, dedup_mem l]
    unfold step_dedup
    split
    · rename_i h
      obtain ⟨y, hy, e⟩ := List.any_eq_true.mp h
      have e' : y = x := eq_of_beq e
      subst e'
      rw [List.mem_cons]
      constructor
      · rintro (z | z)
        · exact .inl z
        · exact .inr (.inr z)
      · rintro (z | rfl | z)
        · exact .inl z
        · exact .inl hy
        · exact .inr z
    · rw [List.mem_append, List.mem_singleton, List.mem_cons, or_assoc]
theorem dedup_nodup : ∀ (l acc : List Int), acc.Nodup → (l.foldl step_dedup acc).Nodup
  | [], _, h => h
  | x :: l, acc, h => by
    rw [List.foldl_cons]
    refine dedup_nodup l _ ?_
    unfold step_dedup
    split
    · exact h
    · rename_i hx
      refine List.nodup_append.mpr ⟨h, by simp, fun a ha b hb e => ?_⟩
      have : b = x := by simpa using hb
      subst this
      subst e
      exact hx (List.any_eq_true.mpr ⟨a, ha, beq_self_eq_true _⟩)
theorem nodup_len : ∀ {l m : List Int}, l.Nodup → m.Nodup → (∀ k, k ∈ l ↔ k ∈ m) → l.length = m.length := fun {l m} hl hm h => (List.perm_iff_count.mpr fun a => by
  rw [List.Nodup.count hl, List.Nodup.count hm]
  simp only [h a]).length_eq
theorem up_nodup {l : List Int} (h : l.Pairwise (· < ·)) : l.Nodup := h.imp fun z e => by omega
theorem firstMet_len (ns : List Int) : (PyProof.Rows.firstMet (fun i => ns.getD i 0) ns.length).length = (sortD ns).length := by
  have e : (List.range ns.length).map (fun i => ns.getD i 0) = ns := by
    apply List.ext_getElem?
    intro i
    rw [List.getElem?_map]
    by_cases h : i < ns.length
    · rw [List.getElem?_range h, List.getElem?_eq_getElem h]
      simp [List.getD_eq_getElem?_getD, List.getElem?_eq_getElem h]
    · rw [List.getElem?_eq_none (by simpa using h), List.getElem?_eq_none (by omega)]
      rfl
  unfold PyProof.Rows.firstMet
  rw [e]
  exact nodup_len (dedup_nodup ns [] .nil) (up_nodup (sortD_up ns)) fun k => by rw [dedup_mem, mem_sortD]; simp
theorem pe_lenSetD (hc : X.calm = true) (hg : Gl X "len") (hm : X.mg "len" = none) (hg2 : Gl X "set") (hm2 : X.mg "set" = none) (ha : PE X e te)
    (na : starEach [e] X.env = (false, eval e X.env) :: starEach [] X.env := by rfl) : PE X (.Call (.Name "len" p) [.Call (.Name "set" p2) [e] [] q] [] pos) (tLenSetD X.K te) := by
  constructor
  intro pins s σ H Q I h
  refine Call_ (ld_blt I hg hm boot_len ?_)
  refine PyProof.Rows.callWith_builtin1 (PyProof.Rows.args_cons ?_ rfl) rfl rfl
  refine Call_ (ld_blt I hg2 hm2 boot_set ?_)
  refine PyProof.Rows.callWith_type1 (PyProof.Rows.args_cons ?_ na) na rfl
  refine thn (ha.run pins s σ H _ I h) ?_
  rintro v s1 ⟨x, H1, I1, r1, l, ns, rfl, hq, hl, q1⟩
  cases r1
  apply PyProof.Rows.args_nil
  obtain ⟨its, r, pl, hz⟩ := I1.list hq
  have size : its.toArray.size = ns.length := by
    rw [List.size_toArray, ← r.length, List.length_map]
  refine call_set_list (I1.ok.hd hc) pl.isList (by simpa using RZ.intsAre_vals r) (by rw [size]; unfold scanBound; omega) ?_
  intro h' tk hS hk
  apply PyProof.Rows.args_nil
  rw [size, firstMet_len] at hS
  obtain ⟨o, es, ep, t, ho, hex, hd, _, _, _, hf, hn⟩ := hS
  have I2 : Inv X pins σ H1 { s1 with heap := h', toks := tk } := I1.kept (t' := tk) fun b o e => hk b o (Heap.lt_size e) e
  have small := sortD_len ns
  exact PySem.call_len_set ho hex hd hf (by rw [hn]; omega) ⟨.int ((sortD ns).length : Nat), H1, I2.tok _, ⟨_, by rw [hn]⟩, q1⟩
def wLenSet (we : WE) : WE := fun δ Φ => we δ fun d => ∃ ns : List Int, d = .list (ns.map .int) ∧ ns.length ≤ 4000 ∧ Φ (.int ((sortD ns).length : Nat))
theorem de_lenSet {K' : PySem.W.Frag} (hc : X.calm = true) (hm : X.mg "len" = none) (hm2 : X.mg "set" = none) (ha : DE X e te we) (hg : Gl X "len" := by rfl) (hg2 : Gl X "set" := by rfl)
    (na : starEach [e] X.env = (false, eval e X.env) :: starEach [] X.env := by rfl) (hK : X.K = K' := by rfl) : DE X (.Call (.Name "len" p) [.Call (.Name "set" p2) [e] [] q] [] pos) (tLenSetD K' te) (wLenSet we) := by
  subst hK
  refine ⟨pe_lenSetD hc hg hm hg2 hm2 ha.pe na, ⟨fun C M H σ δ Q Φ I hw qq => ha.dt.run C M H σ δ _ _ I hw fun v d H1 x1 p1 r1 w1 => ?_⟩⟩
  obtain ⟨ns, rfl, hl, hf⟩ := w1
  cases r1 with
  | lst n hq ra =>
  rw [DrA.of_ints ra] at hq
  exact ⟨_, ns, rfl, SqL.of hq, hl, qq _ _ H1 x1 p1 (.int _) hf⟩
end

/-! ### repr -/
/-- what repr may be asked of: not too deep, the ints not too long, the text not too long -/
def ReprOk (d : PyData) : Prop := d.showable = true ∧ d.depth ≤ 60 ∧ d.shown.length ≤ sizeLine
def rRepr (K : PySem.W.Frag) : List V → Hp → VK → Prop := fun vs H Q => ∃ (M : Addr → Prop) (v : V) (d : PyData), vs = [v] ∧ Dr K M H v d ∧ ReprOk d ∧ Q (.str d.shown) H
section
variable {X : Cx} {K : PySem.W.Frag} {e : Expr} {t : TA} {wa : WA} {p pos : Pos}
theorem call_repr (gd : X.A.guards = some []) (hu : X.A.units + 64 < cLine) (hs : ∃ o, X.base.get? sysModules = some o) : CallR X (.builtin "repr") (rRepr X.K) := by
  intro pins s σ H vs us Q I r h
  obtain ⟨M, v, d, rfl, rd, ⟨h1, h2, h3⟩, q⟩ := h
  obtain ⟨u, rfl, ru⟩ := vals1 r
  have sysFree : H sysModules = none := by
    obtain ⟨o, ho⟩ := hs
    exact (I.bs _ _ ho).2
  obtain ⟨as, rds, hno⟩ := Dr.reads I rd ru
  have apart : d.hasDict = true → sysModules ∉ as := fun _ hm => by
    obtain ⟨o, ho, _⟩ := hno _ hm
    rw [sysFree] at ho
    cases ho
  have viaRef : ∀ a : Addr, u = .ref a → wpAny (model X.prog X.w) X.A (call (.builtin "repr") [u]) (EP X pins σ Q) X.xe s := fun a e => by
    subst e
    exact PySem.repr_of_reads' rds h1 apart gd (by omega) (fun _ _ z => z) (fun h' tk t' hk => ⟨.str d.shown, H, I.kept (t' := t') hk, ⟨_, rfl⟩, q⟩) h3
  cases rd with
  | non =>
    cases ru
    exact PySem.P.repr_of_none ⟨.str _, H, I.tok _, ⟨_, rfl⟩, q⟩
  | bl b =>
    cases ru
    refine PySem.P.repr_of_bool ⟨.str _, H, I.tok _, ⟨_, rfl⟩, ?_⟩
    cases b <;> exact q
  | int i =>
    obtain ⟨tk, rfl⟩ := ru
    exact PySem.P.repr_of_int (by simpa [PyData.showable] using h1) ⟨.str _, H, I.tok _, ⟨_, rfl⟩, q⟩
  | str x =>
    obtain ⟨tk, rfl⟩ := ru
    exact PySem.P.repr_of_str ⟨.str _, H, I.tok _, ⟨_, rfl⟩, q⟩ h3
  | lst n ha ra => cases ru; exact viaRef _ rfl
  | tup ha ra => cases ru; exact viaRef _ rfl
  | dic n ha ra => cases ru; exact viaRef _ rfl
def fRepr (d : PyData) (Φ : PyData → Prop) : Prop := ReprOk d ∧ Φ (.str d.shown)
theorem cd_repr : CallD K (rRepr K) (f1 fRepr) := by
  refine ⟨fun M H vs svs Q Φ p pv al r hf q => ?_⟩
  replace hf := f1_out hf
  obtain ⟨d, rfl, hf⟩ := hf
  replace r := args1 r
  obtain ⟨v, rfl, r⟩ := r
  exact ⟨M, v, d, rfl, r, hf.1, q _ _ H (Same.refl H) (.str _) hf.2⟩
theorem de_repr {K' : PySem.W.Frag} (gd : X.A.guards = some []) (hu : X.A.units + 64 < cLine) (hs : ∃ o, X.base.get? sysModules = some o) (hm : X.mg "repr" = none) (ha : DA X [e] t wa) (hg : Gl X "repr" := by rfl)
    (he : starEach [e] X.env = (false, eval e X.env) :: starEach [] X.env := by rfl) (hpl : (backTo pos (starEach [] X.env)).any (·.1) = false := by rfl) (hK : X.K = K' := by rfl) :
    DE X (.Call (.Name "repr" p) [e] [] pos) (tCB (rRepr K') t) (wCall (f1 fRepr) wa) := by
  subst hK
  exact de_cb (call_repr gd hu hs) cd_repr hg hm (by decide +kernel) ha (he := he) (hpl := hpl)
end

/-! ### t[::-1], t a tuple -/
section
variable {prog : Program} {w : World} {A : Around} {E : Value → Shared → Prop} {s : Shared}
theorem rev_pick (xs : List Value) : (List.range xs.length).filterMap (fun (k : Nat) => xs.toArray[(((xs.length : Int) - 1) + (k : Int) * -1).toNat]?) = xs.reverse := by
  have gen : ∀ ys : List Value, (List.range ys.length).filterMap (fun k => ys[k]?) = ys := by
    intro ys
    induction ys with
    | nil => rfl
    | cons y ys ih =>
      rw [List.length_cons, List.range_succ_eq_map, List.filterMap_cons]
      simp only [List.getElem?_cons_zero, List.filterMap_map]
      congr 1
  have same : ∀ (f g : Nat → Option Value) (l : List Nat), (∀ k ∈ l, f k = g k) → l.filterMap f = l.filterMap g := by
    intro f g l
    induction l with
    | nil => intro _; rfl
    | cons k l ih =>
      intro h
      rw [List.filterMap_cons, List.filterMap_cons, h k (by simp), ih fun j hj => h j (by simp [hj])]
  have h2 := gen xs.reverse
  rw [List.length_reverse] at h2
  rw [same _ (fun k => xs.reverse[k]?) _ fun k hk => ?_]
  · exact h2
  · have hk := List.mem_range.mp hk
    rw [List.getElem?_reverse hk]
    have : (((xs.length : Int) - 1) + (k : Int) * -1).toNat = xs.length - 1 - k := by omega
    rw [this]
    simp
theorem revApplied {sl : Addr} {n : Nat} {t : Tok} {Q : Int × Int × Nat → Shared → Prop} (hs : s.heap.IsSliceOf sl .none .none (.int (-1) t))
    (h : Q ((n : Int) - 1, -1, n) s) : wpAny (model prog w) A (Builtin.Slice.sliceApplied (.ref sl) (pure (n : Int))) Q E s := by
  obtain ⟨os, hos, hcs, hds⟩ := hs
  unfold Builtin.Slice.sliceApplied Builtin.Slice.sliceFields
  refine wpAny_bind (wpAny_bind (wpAny_field hos hds (x := .none) rfl (wpAny_bind (wpAny_field hos hds (x := .none) rfl (wpAny_bind (wpAny_field hos hds (x := .int (-1) t) rfl (wpAny_pure ?_)))))))
  refine wpAny_bind (slicePart_int ?_)
  show wpAny _ _ (if ((-1 : Int) == 0) = true then _ else _) _ _ s
  rw [if_neg (by decide)]
  refine wpAny_bind (slicePart_none ?_)
  refine wpAny_bind (slicePart_none ?_)
  refine wpAny_bind (wpAny_pure ?_)
  have ea : Builtin.Slice.sliceAdjust none none (-1) (n : Int) = ((n : Int) - 1, -1) := by
    unfold Builtin.Slice.sliceAdjust
    simp
  have ep : Builtin.Slice.slicePlaces ((n : Int) - 1) (-1) (-1) = n := by
    unfold Builtin.Slice.slicePlaces
    have h1 : ¬ ((-1 : Int) > 0) := by omega
    have h2 : (- -1 : Int) = 1 := by decide
    simp only [h1, if_false, h2, Int.ediv_one]
    split <;> omega
  show wpAny _ _ (match Builtin.Slice.sliceAdjust none none (-1) (n : Int) with | (lo, hi) => pure (lo, (-1 : Int), Builtin.Slice.slicePlaces lo hi (-1))) _ _ s
  rw [ea]
  show wpAny _ _ (pure ((n : Int) - 1, (-1 : Int), Builtin.Slice.slicePlaces ((n : Int) - 1) (-1) (-1))) _ _ s
  rw [ep]
  exact wpAny_pure h
theorem getItem_tuple_back {t sl : Addr} {its : List Value} {tk : Tok} {Q : Value → Shared → Prop} (ht : IsTup s.heap t its.toArray) (hs : s.heap.IsSliceOf sl .none .none (.int (-1) tk))
    (h : Q (.ref s.heap.objs.size) { s with heap := s.heap.push { cls := .type "tuple", data := .seq its.reverse.toArray } }) (hsz : its.length ≤ sizeLine) : wpAny (model prog w) A (getItem (.ref t) (.ref sl)) Q E s := by
  have htake : sizeOk (.seq its.reverse.toArray) := by
    show its.reverse.toArray.size ≤ sizeLine
    rw [List.size_toArray, List.length_reverse]
    exact hsz
  have hTs : s.TypeIs (.ref sl) "slice" := by
    obtain ⟨os, hos, hcs, hds⟩ := hs
    exact ⟨os, hos, hcs⟩
  unfold getItem
  try with_reducible refine wpAny_holding ?_
  first | refine wpAny_bind (wpAny_pure ?_) | skip
  refine wpAny_bind (wpAny_sequenceKey ht.typeIs (by decide) ?_)
  refine wpAny_bind (wpAny_callSpecial?_slot (name := Str.ofString "__getitem__") ht.typeIs PyProof.Rows.slot_tuple_getitem ?_)
  refine wpAny_call_entry PyProof.Rows.slot_tuple_getitem ht.typeIs entry_tuple_getitem ?_ (args_tuple_getitem _ _)
  show wpAny _ _ (Builtin.Tuple.tupleItemsOf (.ref t) >>= _) _ _ s
  refine wpAny_bind (tupleItemsOf_ ht ?_)
  refine wpAny_bind (wpAny_typeOf hTs ?_)
  rw [if_pos (by decide)]
  refine wpAny_bind (revApplied (n := its.toArray.size) hs ?_)
  have hno : ¬ (((((its.toArray.size : Nat) : Int) - 1) == 0 && (-1 : Int) == 1 && its.toArray.size == its.toArray.size) = true) := by simp
  show wpAny _ _ (if (((((its.toArray.size : Nat) : Int) - 1) == 0 && (-1 : Int) == 1 && its.toArray.size == its.toArray.size) = true) then _ else _) _ _ s
  rw [if_neg hno, List.size_toArray, rev_pick]
  first
    | exact wpAny_bind (m := Builtin.Tuple.tupleExact _) (wpAny_newObj_type (wpAny_pure ⟨_, rfl, wpAny_pure h⟩) htake)
    | exact wpAny_bind (wpAny_bind (m := Builtin.Tuple.tupleExact _) (wpAny_newObj_type (wpAny_pure (wpAny_pure ⟨_, rfl, wpAny_pure h⟩)) htake))
    | exact wpAny_bind (wpAny_bind (m := Builtin.Tuple.tupleExact _) (wpAny_newObj_type (wpAny_pure ⟨_, rfl, wpAny_pure h⟩) htake))
    | exact wpAny_bind (m := Builtin.Tuple.tupleExact _) (wpAny_newObj_type (wpAny_bind (wpAny_pure (wpAny_pure ⟨_, rfl, wpAny_pure h⟩))) htake)
end
section
variable {X : Cx} {K : PySem.W.Frag} {e : Expr} {te : TE} {we : WE} {pos : Pos}
def tRevT (K : PySem.W.Frag) (te : TE) : TE := fun σ H Q => te σ H fun x H1 => ∃ a xs, x = .ref a ∧ SqT K H1 a xs ∧ ∀ p, H1 p = none → Q (.ref p) (upd H1 p (.tup xs.reverse))
theorem pe_revT {k : Nat} {p1 p2 p3 : Pos} (he : PE X e te) : PE X (.Subscript e (.Slice none none (some (.UnaryOp .USub (.Constant (.int 1) k p1) p2)) p3) pos) (tRevT X.K te) := by
  constructor
  intro pins s σ H Q I h
  apply Subscript_
  refine thn (he.run pins s σ H _ I h) ?_
  rintro v s1 ⟨x, H1, I1, r1, a, xs, rfl, hx, q⟩
  cases r1
  have hst : PO X (some (.UnaryOp .USub (.Constant (.int 1) k p1) p2)) (tPart (tUn (rU fun i => .int (-i)) (tC (.int 1)))) := po_some (pe_un un_neg pe_int)
  apply wpAny_Slice
  refine thn (po_none.run pins s1 σ H1 (fun o H2 => o = none ∧ H2 = H1) I1 ⟨rfl, rfl⟩) ?_
  rintro vl s2 ⟨l, H2, I2, pl, rfl, rfl⟩
  refine thn (po_none.run pins s2 σ H2 (fun o H3 => o = none ∧ H3 = H2) I2 ⟨rfl, rfl⟩) ?_
  rintro vu s3 ⟨u, H3, I3, pu, rfl, rfl⟩
  refine thn (hst.run pins s3 σ H3 (fun o H4 => o = some (-1) ∧ H4 = H3) I3 ⟨1, rfl, -1, rfl, rfl, rfl⟩) ?_
  rintro vs s4 ⟨o, H4, I4, ps, rfl, rfl⟩
  cases pl
  cases pu
  cases ps with
  | int i tk =>
  have I5 : Inv X pins σ H4 { s4 with heap := s4.heap.push { cls := .type "slice", data := .fields #[.none, .none, .int (-1) tk] } } := I4.kept (t' := s4.toks) fun b ob q => Heap.get?_push_of_some _ q
  obtain ⟨its, r, ht, hz⟩ := I5.tuple hx
  have hlen := r.length
  refine tail_any (ops := [.ref a, .ref s4.heap.objs.size]) ht.typeIs (PyProof.Rows.slot_tuple_getitem.lookup) ?_ (by with_unfolding_all rfl)
  refine getItem_tuple_back ht (Heap.IsSliceOf.new _ _ _ _) ?_ (by omega)
  refine ⟨.ref _, _, I5.laid (t' := s4.toks) (o := .tup xs.reverse) (fun b ob q => Heap.get?_push_of_some _ q) (Nat.le_refl _) ?_, rfl, q _ (I5.hok.fresh (Nat.le_refl _))⟩
  exact ⟨by rw [List.length_reverse]; exact hz, _, r.reverse, IsTup.new _ _⟩
theorem de_revT {K' : PySem.W.Frag} {k : Nat} {p1 p2 p3 : Pos} (he : DE X e te we) (hK : X.K = K' := by rfl) : DE X (.Subscript e (.Slice none none (some (.UnaryOp .USub (.Constant (.int 1) k p1) p2)) p3) pos) (tRevT K' te)
    (fun δ Φ => we δ fun d => match d with
      | .tuple ds => Φ (.tuple ds.reverse)
      | _ => False) := by
  subst hK
  refine ⟨pe_revT he.pe, ⟨fun C M H σ δ Q Φ I hw q => he.dt.run C M H σ δ _ _ I hw fun v d H1 x1 p1 r1 w1 => ?_⟩⟩
  split at w1
  · cases r1 with
    | tup ha ra =>
    exact ⟨_, _, rfl, ha, fun p hp => q _ _ _ (x1.trans (ExtP.new hp)) (p1.new hp) (.tup (SqT.of upd_same) (ra.reverse.stays (Stays.of_same (same_new hp)))) w1⟩
  · exact w1.elim
end

/-! ### a def by its name -/
structure DefD (P : Program) (w : World) (K : PySem.W.Frag) (mg : Str → Option Value) (base : Heap) (k : Nat) (x : Str) (n : Nat) (wf : WFn) : Prop where
  ex : ∃ (f : Addr) (fd : FuncData) (ps : List Str), FnG P w K mg base CX0 k f fd ps (spD K n wf) ∧ mg x = some (.ref f) ∧ PySem.W.keepIn K (.ref f) = true ∧ Binds K fd ps []
theorem DefD.imp {P : Program} {w : World} {K : PySem.W.Frag} {mg : Str → Option Value} {base : Heap} {k n : Nat} {x : Str} {wf wf' : WFn} (h : DefD P w K mg base k x n wf) (hi : ∀ svs Φ, wf' svs Φ → wf svs Φ) : DefD P w K mg base k x n wf' := by
  obtain ⟨f, fd, ps, F, r⟩ := h.ex
  exact ⟨f, fd, ps, F.imp fun vs H Q E ⟨M, p, svs, Φ, a, b, c, d, e, q⟩ => ⟨M, p, svs, Φ, a, b, c, d, hi _ _ e, q⟩, r⟩
section
variable {X : Cx} {e : Expr} {es : List Expr} {t : TA} {wa : WA} {pos p : Pos} {x : Str}
theorem DefD.call {K' : PySem.W.Frag} {k n j : Nat} {w : WFn} (D : DefD X.prog X.w X.K X.mg X.base k x n w) (hr : Room j X.A) (hj : k ≤ j) (gd : X.A.guards = some []) (ha : DA X (e :: es) t wa) (hg : Gl X x := by rfl) (hdb : (x == ("__debug__" : Str)) = false := by decide)
    (he : starEach (e :: es) X.env = (false, eval e X.env) :: starEach es X.env := by rfl) (hpl : (backTo pos (starEach es X.env)).any (·.1) = false := by rfl) (hK : X.K = K' := by rfl) :
    DE X (.Call (.Name x p) (e :: es) [] pos) (tCall (spD K' n w) [] E0 t) (fun δ Φ => wa δ fun svs => svs.length = n ∧ w svs Φ) := by
  subst hK
  obtain ⟨f, fd, ps, F, hm, hk, hb⟩ := D.ex
  exact de_call F (hr.mono hj) gd hm hk hb ha hg hdb he hpl
end
end DL
/-! comprehensions of two clauses, of dicts; items of dicts -/
namespace DL
open PySem PySem.Spec PyProof.Rows L2
section
variable {K : PySem.W.Frag} {C : Ct} {M M' : Addr → Prop} {H H' : Hp} {σ : Sl} {δ : Dl}
theorem Ok.poke' (I : Ok K C M H σ δ) {a : Addr} {o o' : HO} (mu : mutO o = true) (h0 : C.H0 a = none) (m : M a) (ha : H a = some o) (no : ∀ i ds, δ[i]? = some (.own ds) → sAt σ i ≠ some (.ref a)) (noD : ∀ i kd, δ[i]? = some (.ownD kd) → sAt σ i ≠ some (.ref a)) : Ok K C M (upd H a o') σ δ ∧ Stays M H (upd H a o') := by
  have st : Stays M H (upd H a o') := fun b u e n => by
    by_cases z : b = a
    · subst z
      rw [ha] at e; cases e
      exact absurd m (n mu)
    · rw [upd_ne z]; exact e
  have np : C.p ≠ some a := fun z => by
    obtain ⟨o, e⟩ := I.pH0 _ z
    rw [h0] at e; cases e
  refine ⟨⟨I.len, fun j t e => ?_, I.dist, fun b o e n => ?_, I.sub, fun b mb => ?_, fun q z => ?_, I.pH0, I.c0⟩, st⟩
  · have h := I.slot j t e
    cases t with
    | un => trivial
    | d x => obtain ⟨v, e1, r1⟩ := h; exact ⟨v, e1, r1.stays st⟩
    | pen => exact h
    | own fs =>
      obtain ⟨b, zs, e1, mb, hb0, hb, r1⟩ := h
      have ne : b ≠ a := fun z => by
        subst z
        exact no j fs e e1
      exact ⟨b, zs, e1, mb, hb0, by rw [upd_ne ne]; exact hb, r1.stays st⟩
    | raw v => exact h
    | lenL n => exact h
    | kd P w ps => obtain ⟨b, xs, e1, n1, h1, r1⟩ := h; exact ⟨b, xs, e1, n1, st _ _ h1 fun _ => n1, r1.stays st⟩
    | ownD kd =>
      obtain ⟨b, kvs, e1, mb, hb0, hb, r1⟩ := h
      have ne : b ≠ a := fun z => by
        subst z
        exact noD j kd e e1
      exact ⟨b, kvs, e1, mb, hb0, by rw [upd_ne ne]; exact hb, r1.stays st⟩
  · have ne : b ≠ a := fun z => by
      subst z
      rw [h0] at e; cases e
    rw [upd_ne ne]
    exact I.ext b o e n
  · by_cases z : b = a
    · subst z; exact ⟨_, upd_same⟩
    · obtain ⟨o, e⟩ := I.alive b mb
      exact ⟨o, by rw [upd_ne z]; exact e⟩
  · obtain ⟨mq, g, s, b, ns, e, rg, h1, h2⟩ := I.pen q z
    have ne : q ≠ a := fun y => np (by rw [← y]; exact z)
    exact ⟨mq, g, s, b, ns, by rw [upd_ne ne]; exact e, rg.stays st, h1, h2⟩
theorem new_of (I : Ok K C M H σ δ) {H1 : Hp} (x1 : ExtP C.p H H1) (p1 : PenV K M H1 C.p) {D : Addr} (hD : H1 D = none) : H D = none := by
  cases z : H D with
  | none => rfl
  | some o =>
    by_cases zp : C.p = some D
    · obtain ⟨_, g, s, b, ns, e2, _⟩ := p1 D zp
      rw [hD] at e2; cases e2
    · have e2 := x1 _ _ z zp
      rw [hD] at e2; cases e2
theorem slot_noD (I : Ok K C M H σ δ) {D : Addr} (hD : H D = none) : ∀ i kd, δ[i]? = some (.ownD kd) → sAt σ i ≠ some (.ref D) := fun i kd e z => by
  obtain ⟨b, kvs, e1, m, h0, hb, r1⟩ := I.slot i _ e
  rw [z] at e1
  cases e1
  rw [hD] at hb; cases hb
theorem slot_no (I : Ok K C M H σ δ) {D : Addr} (hD : H D = none) : ∀ i ds, δ[i]? = some (.own ds) → sAt σ i ≠ some (.ref D) := fun i ds e z => by
  obtain ⟨b, ys, e1, m, h0, hb, r1⟩ := I.slot i _ e
  rw [z] at e1
  cases e1
  rw [hD] at hb; cases hb
end

/-! ### two clauses -/
def lcW2 (wg : WG) (wt : WT) (wi1 : WI) (wg1 : WG) (wt1 : WT) (we : WE) (δ : Dl) (vs1 : List Nat) : List PyData → List PyData → (List PyData → Prop) → Prop
  | [], acc, Φ => Φ acc
  | x :: xs, acc, Φ => wg x δ fun δ2 => wt δ2 fun b => if b = true then wi1 δ2 fun items => lcW wg1 wt1 we (wipeD δ2 vs1) items acc fun acc' => lcW2 wg wt wi1 wg1 wt1 we δ vs1 xs acc' Φ
      else lcW2 wg wt wi1 wg1 wt1 we δ vs1 xs acc Φ
def wLc2 (wI : WI) (wg : WG) (wt : WT) (wi1 : WI) (wg1 : WG) (wt1 : WT) (we : WE) (vs vs1 : List Nat) : WF := fun δ Φ => wI δ fun items => lcW2 wg wt wi1 wg1 wt1 we (wipeD δ vs) vs1 items [] Φ
section
variable {K : PySem.W.Frag}
theorem dft_lc2 {wi wi1 : TI} {wI wI1 : WI} {g g1 : TG} {wg wg1 : WG} {is is1 vs vs1 : List Nat} {tt tt1 : TT} {wt wt1 : WT} {te : TE} {we : WE} (hi : DIt K wi wI) (hg : DGt K g wg is) (hsub : ∀ i ∈ is, i ∈ vs) (ht : DTt K tt wt)
    (hi1 : DIt K wi1 wI1) (hg1 : DGt K g1 wg1 is1) (hsub1 : ∀ i ∈ is1, i ∈ vs1) (ht1 : DTt K tt1 wt1) (he : DEt K te we) :
    DFt K (tLc2 wi g tt wi1 g1 tt1 te vs vs1) (wLc2 wI wg wt wI1 wg1 wt1 we vs vs1) := by
  refine ⟨fun C M H σ δ Q Φ I hw q => hi.run C M H σ δ _ _ I hw fun J items B H1 x1 p1 it b1 h1 => ?_⟩
  have I1 := I.next x1 p1
  intro D hD
  have hD0 : H D = none := new_of I x1 p1 hD
  have hC0 : C.H0 D = none := I1.fresh0 hD
  have np : C.p ≠ some D := fun z => by
    obtain ⟨o, e⟩ := I.pH0 _ z
    rw [hC0] at e; cases e
  have slotNo := slot_no I1 hD
  have extPoke : ∀ {H5 : Hp} {o : HO}, ExtP C.p H H5 → ExtP C.p H (upd H5 D o) := fun {H5 o} x b u e n => by
    have ne : b ≠ D := fun z => by
      subst z
      rw [hD0] at e; cases e
    rw [upd_ne ne]
    exact x _ _ e n
  refine ⟨fun i m H' => ∃ acc ds, Ok K C (With M D) H' σ δ ∧ ExtP C.p H H' ∧ H' D = some (.lst acc) ∧ DrA K (With M D) H' acc ds ∧ B (With M D) H' ∧ lcW2 wg wt wI1 wg1 wt1 we (wipeD δ vs) vs1 (items.drop i) ds Φ ∧ m = items.length - i ∧ i ≤ items.length,
    ⟨_, [], [], I1.with hD, x1.trans (ExtP.new hD), upd_same, .nil, it.keep _ _ _ _ b1 (fun v d r => r.map (With.fresh hD) (Stays.of_same (same_new hD))), h1, rfl, Nat.zero_le _⟩, ?_⟩
  rintro i m H' ⟨acc, ds, I', x', hA, ra, b', h', rfl, hle⟩
  by_cases hlt : i < items.length
  · obtain ⟨d, hd, hdrop⟩ := drop_cons hlt
    rw [hdrop] at h'
    obtain ⟨go, yld⟩ := it.go i (With M D) H' d b' hd
    refine .inr ⟨go, fun H2 => ∃ acc ds, Ok K C (With M D) H2 σ δ ∧ ExtP C.p H H2 ∧ H2 D = some (.lst acc) ∧ DrA K (With M D) H2 acc ds ∧ B (With M D) H2 ∧ lcW2 wg wt wI1 wg1 wt1 we (wipeD δ vs) vs1 (items.drop (i + 1)) ds Φ,
      fun H2 ⟨acc, ds, a1, a2, a3, a4, a5, a6⟩ => ⟨_, (by omega : items.length - (i + 1) < items.length - i), acc, ds, a1, a2, a3, a4, a5, a6, rfl, hlt⟩, fun x Hx hy => ?_⟩
    obtain ⟨sm, rx⟩ := yld x Hx hy
    have Ix := I'.same sm
    have bx := it.keep _ _ (With M D) Hx b' (fun v d r => r.stays (Stays.of_same sm))
    have rax := ra.stays (Stays.of_same sm)
    have hAx := sm _ _ hA
    have xx := x'.trans (ExtP.of_same sm)
    refine hg.run C (With M D) Hx (wipe σ vs) (wipeD δ vs) x d _ _ (Ix.wiped vs) rx h' fun σ3 δ3 I3 w3 ow3 h3 => ?_
    refine ⟨by rw [w3 vs hsub, wipe_twice], ?_⟩
    refine ht.run C (With M D) Hx σ3 δ3 _ _ I3 h3 fun k H4 x4 p4 h4 => ?_
    have I4 := Ix.next x4 p4
    have J4 := I3.next x4 p4
    have st4 := x4.stays Ix.pen
    have hA4 := x4 _ _ hAx np
    have b4 := it.keep _ _ (With M D) H4 bx (fun v d r => r.stays st4)
    cases k with
    | false => exact ⟨acc, ds, I4, xx.trans x4, hA4, rax.stays st4, b4, h4⟩
    | true =>
      refine hi1.run C (With M D) H4 σ3 δ3 _ _ J4 h4 fun J1 items1 B1 H5 x5 p5 it1 b5 h5 => ?_
      have I5 := I4.next x5 p5
      have J5 := J4.next x5 p5
      have st5 := x5.stays I4.pen
      have hA5 := x5 _ _ hA4 np
      have bo5 := it.keep _ _ (With M D) H5 b4 (fun v d r => r.stays st5)
      refine ⟨fun j m H6 => ∃ acc ds, Ok K C (With M D) H6 σ δ ∧ Ok K C (With M D) H6 σ3 δ3 ∧ ExtP C.p H H6 ∧ H6 D = some (.lst acc) ∧ DrA K (With M D) H6 acc ds ∧ B (With M D) H6 ∧ B1 (With M D) H6 ∧
          lcW wg1 wt1 we (wipeD δ3 vs1) (items1.drop j) ds (fun acc' => lcW2 wg wt wI1 wg1 wt1 we (wipeD δ vs) vs1 (items.drop (i + 1)) acc' Φ) ∧ m = items1.length - j ∧ j ≤ items1.length,
        ⟨_, acc, ds, I5, J5, (xx.trans x4).trans x5, hA5, (rax.stays st4).stays st5, bo5, b5, h5, rfl, Nat.zero_le _⟩, ?_⟩
      rintro j m H6 ⟨acc, ds, I6, J6, x6, hA6, ra6, bo6, b6, h6, rfl, hle6⟩
      by_cases hlt6 : j < items1.length
      · obtain ⟨d, hd, hdrop⟩ := drop_cons hlt6
        rw [hdrop] at h6
        obtain ⟨go, yld⟩ := it1.go j (With M D) H6 d b6 hd
        refine .inr ⟨go, fun H7 => ∃ acc ds, Ok K C (With M D) H7 σ δ ∧ Ok K C (With M D) H7 σ3 δ3 ∧ ExtP C.p H H7 ∧ H7 D = some (.lst acc) ∧ DrA K (With M D) H7 acc ds ∧ B (With M D) H7 ∧ B1 (With M D) H7 ∧
            lcW wg1 wt1 we (wipeD δ3 vs1) (items1.drop (j + 1)) ds (fun acc' => lcW2 wg wt wI1 wg1 wt1 we (wipeD δ vs) vs1 (items.drop (i + 1)) acc' Φ),
          fun H7 ⟨acc, ds, a1, a2, a3, a4, a5, a6, a7, a8⟩ => ⟨_, (by omega : items1.length - (j + 1) < items1.length - j), acc, ds, a1, a2, a3, a4, a5, a6, a7, a8, rfl, hlt6⟩, fun x Hx hy => ?_⟩
        obtain ⟨sm, rx⟩ := yld x Hx hy
        have Ix := I6.same sm
        have Jx := J6.same sm
        have smT : Tr K (With M D) H6 (With M D) Hx := fun v d r => r.stays (Stays.of_same sm)
        refine hg1.run C (With M D) Hx (wipe σ3 vs1) (wipeD δ3 vs1) x d _ _ (Jx.wiped vs1) rx h6 fun σ8 δ8 I8 w8 _ h8 => ?_
        refine ⟨by rw [w8 vs1 hsub1, wipe_twice], ?_⟩
        refine ht1.run C (With M D) Hx σ8 δ8 _ _ I8 h8 fun k H9 x9 p9 h9 => ?_
        have st9 := x9.stays Ix.pen
        have t9 : Tr K (With M D) H6 (With M D) H9 := smT.trans fun v d r => r.stays st9
        have hA9 := x9 _ _ (sm _ _ hA6) np
        have ra9 := (ra6.stays (Stays.of_same sm)).stays st9
        have xe9 := (x6.trans (ExtP.of_same sm)).trans x9
        cases k with
        | false => exact ⟨acc, ds, Ix.next x9 p9, Jx.next x9 p9, xe9, hA9, ra9, it.keep _ _ _ _ bo6 t9, it1.keep _ _ _ _ b6 t9, h9⟩
        | true =>
          refine he.run C (With M D) H9 σ8 δ8 _ _ (I8.next x9 p9) h9 fun y dy H10 x10 p10 r10 h10 => ?_
          have I10 := (Ix.next x9 p9).next x10 p10
          have J10 := (Jx.next x9 p9).next x10 p10
          have st10 := x10.stays (Ix.next x9 p9).pen
          have hA10 := x10 _ _ hA9 np
          have t10 : Tr K (With M D) H6 (With M D) H10 := t9.trans fun v d r => r.stays st10
          have ra10 := ra9.stays st10
          have J3no : ∀ i ds, δ3[i]? = some (.own ds) → sAt σ3 i ≠ some (.ref D) := fun i ds e z => by
            obtain ⟨e1, z1⟩ := ((OwnLe.wiped vs).trans ow3) i ds e
            exact slotNo i ds e1 (z1 ▸ z)
          obtain ⟨I11, st11⟩ := I10.poke (ys := acc ++ [y]) hC0 (.inr rfl) hA10 slotNo
          obtain ⟨J11, _⟩ := J10.poke (ys := acc ++ [y]) hC0 (.inr rfl) hA10 J3no
          have t11 : Tr K (With M D) H6 (With M D) (upd H10 D (.lst (acc ++ [y]))) := t10.trans fun v d r => r.stays st11
          exact ⟨acc, hA10, by rw [← ra10.length]; exact h10.1, acc ++ [y], ds ++ [dy], I11, J11, extPoke (xe9.trans x10), upd_same, (ra10.append (.cons r10 .nil)).stays st11, it.keep _ _ _ _ bo6 t11, it1.keep _ _ _ _ b6 t11, h10.2⟩
      · have e : j = items1.length := by omega
        subst e
        rw [List.drop_length] at h6
        exact .inl ⟨it1.stop _ H6 b6, acc, ds, I6, x6, hA6, ra6, bo6, h6⟩
  · have e : i = items.length := by omega
    subst e
    rw [List.drop_length] at h'
    exact .inl ⟨it.stop _ H' b', q D acc ds H' x' hD0 hA I'.pen ra h'⟩
end
section
variable {X : Cx}
theorem df_lc2 {elt tg iter tg1 iter1 : Expr} {ifs ifs1 : List Expr} {scope : Scope} {own : List (Str × Nat)} {vs1 : List Nat} {pos : Pos} {wi wi1 : TI} {wI wI1 : WI} {g g1 : TG} {wg wg1 : WG} {is is1 : List Nat} {tt tt1 : TT} {wt wt1 : WT} {te : TE} {we : WE}
    (hc : X.calm = true) (hN : X.N.Nodup) (hi : DI X tg iter wi wI) (ok : BlkOk X.N X.env.scope scope own) (hv : ∀ i ∈ vs1, i ∈ own.map (·.2)) (hsub : ∀ i ∈ is, i ∈ own.map (·.2)) (hsub1 : ∀ i ∈ is1, i ∈ vs1)
    (hg : ∀ (s : Shared) (H : Hp) (C : Addr) (cl : List (Str × Addr)) (fp : List Addr), DG (X.blk s H scope (compEnvC scope cl C X.env) fp) tg g wg is)
    (ht : ∀ (s : Shared) (H : Hp) (C : Addr) (cl : List (Str × Addr)) (fp : List Addr), DTs (X.blk s H scope (compEnvC scope cl C X.env) fp) ifs tt wt)
    (hi1 : ∀ (s : Shared) (H : Hp) (C : Addr) (cl : List (Str × Addr)) (fp : List Addr), DI (X.blk s H scope (compEnvC scope cl C X.env) fp) tg1 iter1 wi1 wI1)
    (hg1 : ∀ (s : Shared) (H : Hp) (C : Addr) (cl : List (Str × Addr)) (fp : List Addr), DG (X.blk s H scope (compEnvC scope cl C X.env) fp) tg1 g1 wg1 is1)
    (ht1 : ∀ (s : Shared) (H : Hp) (C : Addr) (cl : List (Str × Addr)) (fp : List Addr), DTs (X.blk s H scope (compEnvC scope cl C X.env) fp) ifs1 tt1 wt1)
    (he : ∀ (s : Shared) (H : Hp) (C : Addr) (cl : List (Str × Addr)) (fp : List Addr), DE (X.blk s H scope (compEnvC scope cl C X.env) fp) elt te we)
    (hs : ∀ x, foldedSetIterable iter X.env x = pure x := by intro _; rfl) (hs1 : ∀ env x, foldedSetIterable iter1 env x = pure x := by intro _ _; rfl) :
    DF X (.ListComp elt [⟨tg, iter, ifs, 0⟩, ⟨tg1, iter1, ifs1, 0⟩] scope pos) (tLc2 wi g tt wi1 g1 tt1 te (own.map (·.2)) vs1) (wLc2 wI wg wt wI1 wg1 wt1 we (own.map (·.2)) vs1) :=
  ⟨pe_lc2 hc hN hi.pe ok hv (fun s H C cl fp => (hg s H C cl fp).pe) (fun s H C cl fp => (ht s H C cl fp).pe) (fun s H C cl fp => (hi1 s H C cl fp).pe) (fun s H C cl fp => (hg1 s H C cl fp).pe) (fun s H C cl fp => (ht1 s H C cl fp).pe) (fun s H C cl fp => (he s H C cl fp).pe) hs hs1,
   dft_lc2 hi.dt (hg X.s_0 (fun _ => none) 0 [] []).dt hsub (ht X.s_0 (fun _ => none) 0 [] []).dt (hi1 X.s_0 (fun _ => none) 0 [] []).dt (hg1 X.s_0 (fun _ => none) 0 [] []).dt hsub1 (ht1 X.s_0 (fun _ => none) 0 [] []).dt (he X.s_0 (fun _ => none) 0 [] []).dt⟩
/-- y = [..], y a local name, on one line -/
theorem ds_setLc {i : Nat} {y : Str} {py : Pos} {elt tg iter : Expr} {ifs : List Expr} {scope : Scope} {own : List (Str × Nat)} {pos spos : Pos} {wi : TI} {wI : WI} {g : TG} {wg : WG} {is : List Nat} {tt : TT} {wt : WT} {te : TE} {we : WE}
    (hc : X.calm = true) (hN : X.N.Nodup) (hy : X.N[i]? = some y) (hyl : X.env.scope.names.lookup y = some .local)
    (hsw : swapsWith (.ListComp elt [⟨tg, iter, ifs, 0⟩] scope pos) (some (.Name y py)) spos.line X.env = pure true)
    (hi : DI X tg iter wi wI) (ok : BlkOk X.N X.env.scope scope own) (hsub : ∀ i ∈ is, i ∈ own.map (·.2))
    (hg : ∀ (s : Shared) (H : Hp) (C : Addr) (cl : List (Str × Addr)) (fp : List Addr), DG (X.blk s H scope (compEnvC scope cl C X.env) fp) tg g wg is)
    (ht : ∀ (s : Shared) (H : Hp) (C : Addr) (cl : List (Str × Addr)) (fp : List Addr), DTs (X.blk s H scope (compEnvC scope cl C X.env) fp) ifs tt wt)
    (he : ∀ (s : Shared) (H : Hp) (C : Addr) (cl : List (Str × Addr)) (fp : List Addr), DE (X.blk s H scope (compEnvC scope cl C X.env) fp) elt te we)
    (hs : ∀ x, foldedSetIterable iter X.env x = pure x := by intro _; rfl) :
    DS X (.Assign [.Name y py] (.ListComp elt [⟨tg, iter, ifs, 0⟩] scope pos) spos) (tAsg (tLc wi g tt te (own.map (·.2))) (gName i)) (wSet i fun δ Φ => wLc wI wg wt we (own.map (·.2)) δ fun ds => Φ (.list ds)) :=
  ⟨ps_lc' hc hN hy hyl hsw hi ok hg ht he hs, dst_set (df_lc (pos := pos) hc hN hi ok hsub hg ht he hs).to.dt⟩
theorem ds_ownLc {i : Nat} {y : Str} {py : Pos} {elt tg iter : Expr} {ifs : List Expr} {scope : Scope} {own : List (Str × Nat)} {pos spos : Pos} {wi : TI} {wI : WI} {g : TG} {wg : WG} {is : List Nat} {tt : TT} {wt : WT} {te : TE} {we : WE}
    (hc : X.calm = true) (hN : X.N.Nodup) (hy : X.N[i]? = some y) (hyl : X.env.scope.names.lookup y = some .local)
    (hsw : swapsWith (.ListComp elt [⟨tg, iter, ifs, 0⟩] scope pos) (some (.Name y py)) spos.line X.env = pure true)
    (hi : DI X tg iter wi wI) (ok : BlkOk X.N X.env.scope scope own) (hsub : ∀ i ∈ is, i ∈ own.map (·.2))
    (hg : ∀ (s : Shared) (H : Hp) (C : Addr) (cl : List (Str × Addr)) (fp : List Addr), DG (X.blk s H scope (compEnvC scope cl C X.env) fp) tg g wg is)
    (ht : ∀ (s : Shared) (H : Hp) (C : Addr) (cl : List (Str × Addr)) (fp : List Addr), DTs (X.blk s H scope (compEnvC scope cl C X.env) fp) ifs tt wt)
    (he : ∀ (s : Shared) (H : Hp) (C : Addr) (cl : List (Str × Addr)) (fp : List Addr), DE (X.blk s H scope (compEnvC scope cl C X.env) fp) elt te we)
    (hs : ∀ x, foldedSetIterable iter X.env x = pure x := by intro _; rfl) :
    DS X (.Assign [.Name y py] (.ListComp elt [⟨tg, iter, ifs, 0⟩] scope pos) spos) (tAsg (tLc wi g tt te (own.map (·.2))) (gName i)) (wOwn i (wLc wI wg wt we (own.map (·.2)))) :=
  ⟨ps_lc' hc hN hy hyl hsw hi ok hg ht he hs, dst_own (df_lc (pos := pos) hc hN hi ok hsub hg ht he hs).dt⟩
/-- y = [.. for .. for ..] -/
theorem ds_setLc2 {i : Nat} {y : Str} {py : Pos} {elt tg iter tg1 iter1 : Expr} {ifs ifs1 : List Expr} {scope : Scope} {own : List (Str × Nat)} {vs1 : List Nat} {pos spos : Pos} {wi wi1 : TI} {wI wI1 : WI} {g g1 : TG} {wg wg1 : WG} {is is1 : List Nat} {tt tt1 : TT} {wt wt1 : WT} {te : TE} {we : WE}
    (hc : X.calm = true) (hN : X.N.Nodup) (hy : X.N[i]? = some y) (hyl : X.env.scope.names.lookup y = some .local)
    (hsw : swapsWith (.ListComp elt [⟨tg, iter, ifs, 0⟩, ⟨tg1, iter1, ifs1, 0⟩] scope pos) (some (.Name y py)) spos.line X.env = pure true)
    (hi : DI X tg iter wi wI) (ok : BlkOk X.N X.env.scope scope own) (hv : ∀ i ∈ vs1, i ∈ own.map (·.2)) (hsub : ∀ i ∈ is, i ∈ own.map (·.2)) (hsub1 : ∀ i ∈ is1, i ∈ vs1)
    (hg : ∀ (s : Shared) (H : Hp) (C : Addr) (cl : List (Str × Addr)) (fp : List Addr), DG (X.blk s H scope (compEnvC scope cl C X.env) fp) tg g wg is)
    (ht : ∀ (s : Shared) (H : Hp) (C : Addr) (cl : List (Str × Addr)) (fp : List Addr), DTs (X.blk s H scope (compEnvC scope cl C X.env) fp) ifs tt wt)
    (hi1 : ∀ (s : Shared) (H : Hp) (C : Addr) (cl : List (Str × Addr)) (fp : List Addr), DI (X.blk s H scope (compEnvC scope cl C X.env) fp) tg1 iter1 wi1 wI1)
    (hg1 : ∀ (s : Shared) (H : Hp) (C : Addr) (cl : List (Str × Addr)) (fp : List Addr), DG (X.blk s H scope (compEnvC scope cl C X.env) fp) tg1 g1 wg1 is1)
    (ht1 : ∀ (s : Shared) (H : Hp) (C : Addr) (cl : List (Str × Addr)) (fp : List Addr), DTs (X.blk s H scope (compEnvC scope cl C X.env) fp) ifs1 tt1 wt1)
    (he : ∀ (s : Shared) (H : Hp) (C : Addr) (cl : List (Str × Addr)) (fp : List Addr), DE (X.blk s H scope (compEnvC scope cl C X.env) fp) elt te we)
    (hs : ∀ x, foldedSetIterable iter X.env x = pure x := by intro _; rfl) (hs1 : ∀ env x, foldedSetIterable iter1 env x = pure x := by intro _ _; rfl) :
    DS X (.Assign [.Name y py] (.ListComp elt [⟨tg, iter, ifs, 0⟩, ⟨tg1, iter1, ifs1, 0⟩] scope pos) spos) (tAsg (tLc2 wi g tt wi1 g1 tt1 te (own.map (·.2)) vs1) (gName i))
      (wSet i fun δ Φ => wLc2 wI wg wt wI1 wg1 wt1 we (own.map (·.2)) vs1 δ fun ds => Φ (.list ds)) :=
  ⟨ps_setLc2 hc hN hy hyl hsw hi.pe ok hv (fun s H C cl fp => (hg s H C cl fp).pe) (fun s H C cl fp => (ht s H C cl fp).pe) (fun s H C cl fp => (hi1 s H C cl fp).pe) (fun s H C cl fp => (hg1 s H C cl fp).pe) (fun s H C cl fp => (ht1 s H C cl fp).pe) (fun s H C cl fp => (he s H C cl fp).pe) hs hs1,
   dst_set (df_lc2 (pos := pos) hc hN hi ok hv hsub hsub1 hg ht hi1 hg1 ht1 he hs hs1).to.dt⟩
end

/-! ### dicts by comprehension; items -/
def dcW (wg : WG) (wt : WT) (wk wv : WE) (δ : Dl) : List PyData → List (Key × PyData) → (List (Key × PyData) → Prop) → Prop
  | [], kd, Φ => Φ kd
  | x :: xs, kd, Φ => wg x δ fun δ2 => wt δ2 fun b => if b = true then wk δ2 fun dk => wv δ2 fun dv => ∃ k, dk = keyD k ∧ kd.length < sizeLine ∧ dcW wg wt wk wv δ xs (dPut kd k dv) Φ else dcW wg wt wk wv δ xs kd Φ
def wDc (wI : WI) (wg : WG) (wt : WT) (wk wv : WE) (vs : List Nat) : WE := fun δ Φ => wI δ fun items => dcW wg wt wk wv (wipeD δ vs) items [] fun kd => Φ (dOf kd)
section
variable {K : PySem.W.Frag}
theorem Dr.key {M : Addr → Prop} {H : Hp} {v : V} {k : Key} (r : Dr K M H v (keyD k)) : v = kV k := by
  cases k <;> (cases r; rfl)
theorem det_dc {wi : TI} {wI : WI} {g : TG} {wg : WG} {is vs : List Nat} {tt : TT} {wt : WT} {tk tv : TE} {wk wv : WE} (hi : DIt K wi wI) (hg : DGt K g wg is) (hsub : ∀ i ∈ is, i ∈ vs) (ht : DTt K tt wt) (hk : DEt K tk wk) (hv : DEt K tv wv) :
    DEt K (tDc wi g tt tk tv vs) (wDc wI wg wt wk wv vs) := by
  refine ⟨fun C M H σ δ Q Φ I hw q => hi.run C M H σ δ _ _ I hw fun J items B H1 x1 p1 it b1 h1 => ?_⟩
  have I1 := I.next x1 p1
  intro D hD
  have hD0 : H D = none := new_of I x1 p1 hD
  have hC0 : C.H0 D = none := I1.fresh0 hD
  have np : C.p ≠ some D := fun z => by
    obtain ⟨o, e⟩ := I.pH0 _ z
    rw [hC0] at e; cases e
  have slotNo := slot_no I1 hD
  refine ⟨fun i m H' => ∃ kvs kd, Ok K C (With M D) H' σ δ ∧ ExtP C.p H H' ∧ H' D = some (.dK kvs) ∧ DrK K (With M D) H' kvs kd ∧ B (With M D) H' ∧ dcW wg wt wk wv (wipeD δ vs) (items.drop i) kd (fun kd => Φ (dOf kd)) ∧ m = items.length - i ∧ i ≤ items.length,
    ⟨_, [], [], I1.with hD, x1.trans (ExtP.new hD), upd_same, .nil, it.keep _ _ _ _ b1 (fun v d r => r.map (With.fresh hD) (Stays.of_same (same_new hD))), h1, rfl, Nat.zero_le _⟩, ?_⟩
  rintro i m H' ⟨kvs, kd, I', x', hA, ra, b', h', rfl, hle⟩
  by_cases hlt : i < items.length
  · obtain ⟨d, hd, hdrop⟩ := drop_cons hlt
    rw [hdrop] at h'
    obtain ⟨go, yld⟩ := it.go i (With M D) H' d b' hd
    refine .inr ⟨go, fun H2 => ∃ kvs kd, Ok K C (With M D) H2 σ δ ∧ ExtP C.p H H2 ∧ H2 D = some (.dK kvs) ∧ DrK K (With M D) H2 kvs kd ∧ B (With M D) H2 ∧ dcW wg wt wk wv (wipeD δ vs) (items.drop (i + 1)) kd (fun kd => Φ (dOf kd)),
      fun H2 ⟨kvs, kd, a1, a2, a3, a4, a5, a6⟩ => ⟨_, (by omega : items.length - (i + 1) < items.length - i), kvs, kd, a1, a2, a3, a4, a5, a6, rfl, hlt⟩, fun x Hx hy => ?_⟩
    obtain ⟨sm, rx⟩ := yld x Hx hy
    have Ix := I'.same sm
    have bx := it.keep _ _ (With M D) Hx b' (fun v d r => r.stays (Stays.of_same sm))
    have rax := ra.stays (Stays.of_same sm)
    have hAx := sm _ _ hA
    have xx := x'.trans (ExtP.of_same sm)
    refine hg.run C (With M D) Hx (wipe σ vs) (wipeD δ vs) x d _ _ (Ix.wiped vs) rx h' fun σ3 δ3 I3 w3 _ h3 => ?_
    refine ⟨by rw [w3 vs hsub, wipe_twice], ?_⟩
    refine ht.run C (With M D) Hx σ3 δ3 _ _ I3 h3 fun k H4 x4 p4 h4 => ?_
    have I4 := Ix.next x4 p4
    have st4 := x4.stays Ix.pen
    have hA4 := x4 _ _ hAx np
    have b4 := it.keep _ _ (With M D) H4 bx (fun v d r => r.stays st4)
    cases k with
    | false => exact ⟨kvs, kd, I4, xx.trans x4, hA4, rax.stays st4, b4, h4⟩
    | true =>
      refine hk.run C (With M D) H4 σ3 δ3 _ _ (I3.next x4 p4) h4 fun y dy H5 x5 p5 r5 h5 => ?_
      refine hv.run C (With M D) H5 σ3 δ3 _ _ ((I3.next x4 p4).next x5 p5) h5 fun z dz H6 x6 p6 r6 h6 => ?_
      obtain ⟨k, rfl, hz, h7⟩ := h6
      have I5 := I4.next x5 p5
      have I6 := I5.next x6 p6
      have st5 := x5.stays I4.pen
      have st6 := x6.stays I5.pen
      have hA6 := x6 _ _ (x5 _ _ hA4 np) np
      have t6 : Tr K (With M D) H4 (With M D) H6 := fun v d r => (r.stays st5).stays st6
      have ra6 := ((rax.stays st4).stays st5).stays st6
      obtain ⟨I7, st7⟩ := I6.poke' (o' := .dK (putK kvs k z)) rfl hC0 (.inr rfl) hA6 slotNo (slot_noD I1 hD)
      refine ⟨kvs, k, r5.key, hA6, by rw [← ra6.length]; exact hz, putK kvs k z, dPut kd k dz, I7, ?_, upd_same, (ra6.put r6).stays st7, it.keep _ _ _ _ b4 (t6.trans fun v d r => r.stays st7), h7⟩
      intro b o e n
      have ne : b ≠ D := fun z => by
        subst z
        rw [hD0] at e; cases e
      rw [upd_ne ne]
      exact x6 _ _ (x5 _ _ (x4 _ _ (xx _ _ e n) n) n) n
  · have e : i = items.length := by omega
    subst e
    rw [List.drop_length] at h'
    refine .inl ⟨it.stop _ H' b', q _ _ H' x' ?_ ((ra.map (fun a o _ z => .inl z) Stays.refl).to (M := M) (I.freshM hD0) hA) h'⟩
    intro z e
    obtain ⟨m, g, s, b, ns, e1, r1, h1, h2⟩ := I'.pen z e
    exact ⟨(I.pen z e).1, g, s, b, ns, e1, r1.less fun _ => .inl, h1, h2⟩
end
section
variable {X : Cx} {o i : Expr} {to ti : TE} {wo wi' : WE} {pos : Pos}
theorem de_dc {kx vx tg iter : Expr} {ifs : List Expr} {scope : Scope} {own : List (Str × Nat)} {pos : Pos} {wi : TI} {wI : WI} {g : TG} {wg : WG} {is : List Nat} {tt : TT} {wt : WT} {tk tv : TE} {wk wv : WE} (hc : X.calm = true) (hN : X.N.Nodup)
    (hi : DI X tg iter wi wI) (ok : BlkOk X.N X.env.scope scope own) (hsub : ∀ i ∈ is, i ∈ own.map (·.2))
    (hg : ∀ (s : Shared) (H : Hp) (C : Addr) (cl : List (Str × Addr)) (fp : List Addr), DG (X.blk s H scope (compEnvC scope cl C X.env) fp) tg g wg is)
    (ht : ∀ (s : Shared) (H : Hp) (C : Addr) (cl : List (Str × Addr)) (fp : List Addr), DTs (X.blk s H scope (compEnvC scope cl C X.env) fp) ifs tt wt)
    (hk : ∀ (s : Shared) (H : Hp) (C : Addr) (cl : List (Str × Addr)) (fp : List Addr), DE (X.blk s H scope (compEnvC scope cl C X.env) fp) kx tk wk)
    (he : ∀ (s : Shared) (H : Hp) (C : Addr) (cl : List (Str × Addr)) (fp : List Addr), DE (X.blk s H scope (compEnvC scope cl C X.env) fp) vx tv wv)
    (hs : ∀ x, foldedSetIterable iter X.env x = pure x := by intro _; rfl) :
    DE X (.DictComp kx vx [⟨tg, iter, ifs, 0⟩] scope pos) (tDc wi g tt tk tv (own.map (·.2))) (wDc wI wg wt wk wv (own.map (·.2))) :=
  ⟨pe_dc hc hN hi.pe ok (fun s H C cl fp => (hg s H C cl fp).pe) (fun s H C cl fp => (ht s H C cl fp).pe) (fun s H C cl fp => (hk s H C cl fp).pe) (fun s H C cl fp => (he s H C cl fp).pe) hs,
   det_dc hi.dt (hg X.s_0 (fun _ => none) 0 [] []).dt hsub (ht X.s_0 (fun _ => none) 0 [] []).dt (hk X.s_0 (fun _ => none) 0 [] []).dt (he X.s_0 (fun _ => none) 0 [] []).dt⟩
/-- d[k] -/
def wDget (wo wi : WE) : WE := fun δ Φ => wo δ fun d => wi δ fun e => ∃ kd k v, d = dOf kd ∧ e = keyD k ∧ dGet kd k = some v ∧ Φ v
theorem de_dget (hu : X.A.units + 1 < cLine) (ho : DE X o to wo) (hi : DE X i ti wi') (hs : NoSl i := by exact fun _ _ => rfl) : DE X (.Subscript o i pos) (tDGet to ti) (wDget wo wi') := by
  refine ⟨pe_dget hu ho.pe hi.pe hs, ⟨fun C M H σ δ Q Φ I hw q => ho.dt.run C M H σ δ _ _ I hw fun x d H1 x1 p1 r1 w1 => ?_⟩⟩
  refine hi.dt.run C M H1 σ δ _ _ (I.next x1 p1) w1 fun y e H2 x2 p2 r2 w2 => ?_
  obtain ⟨kd, k, v, rfl, rfl, hk, hf⟩ := w2
  obtain ⟨b, kvs, rfl, n, hb, rk⟩ := (r1.stays (x2.stays p1)).dict
  obtain ⟨u, hu, ru⟩ := rk.get hk
  have ey := r2.key
  subst ey
  exact ⟨b, u, rfl, by rw [← hu]; exact DGet.k hb, q _ _ H2 (x1.trans x2) p2 ru hf⟩
end
end DL
/-! the empty dict; the built-ins' names; unreached code -/
namespace DL
open PySem PySem.Spec PyProof.Rows L2
section
variable {X : Cx} {K : PySem.W.Frag} {pos : Pos}
theorem de_dnew : DE X (.Dict [] [] pos) tDNewK (wC (dOf [])) := by
  refine ⟨pe_dnewK, ⟨fun C M H σ δ Q Φ I hw q a ha => ?_⟩⟩
  exact q _ _ _ (ExtP.new ha) (I.pen.new ha) (DrK.nil.to (I.freshM ha) upd_same) hw
def wNever : WS := fun _ _ => False
theorem ds_never {st : Stmt} : DS X st tNever wNever := ⟨ps_never, ⟨fun C M H σ δ D Φ I hw c => hw.elim⟩⟩
theorem dss_never {sts : List Stmt} : DSs X sts tNever wNever := ⟨pss_never, ⟨fun C M H σ δ D Φ I hw c => hw.elim⟩⟩
end
/-- a call of a def -/
def wDef (n : Nat) (w : WFn) (wa : WA) : WE := fun δ Φ => wa δ fun svs => svs.length = n ∧ w svs Φ
/-- the built-ins that the module's names leave as they are -/
structure Blt (mg : Str → Option Value) : Prop where
  b_len : mg "len" = none
  b_list : mg "list" = none
  b_tuple : mg "tuple" = none
  b_range : mg "range" = none
  b_isinstance : mg "isinstance" = none
  b_int : mg "int" = none
  b_bool : mg "bool" = none
  b_set : mg "set" = none
  b_sorted : mg "sorted" = none
  b_enumerate : mg "enumerate" = none
  b_repr : mg "repr" = none
  b_all : mg "all" = none
  b_max : mg "max" = none
  b_min : mg "min" = none
  b_any : mg "any" = none
  b_zip : mg "zip" = none
  b_dict : mg "dict" = none
  b_sum : mg "sum" = none
  b_str : mg "str" = none
/-- a def of the text under its name -/
def HasDef (K : PySem.W.Frag) (mg : Str → Option Value) (x : Str) (st : Stmt) (ps : List Str) : Prop :=
  ∃ (f : Addr) (fd : FuncData), Fun K x x st f fd ∧ mg x = some (.ref f) ∧ Binds K fd ps []
theorem HasDef.ok {P : Program} {w : World} {K : PySem.W.Frag} {mg : Str → Option Value} {base : Heap} {k : Nat} {x : Str} {st : Stmt} {N ps : List Str} {wf : WFn} (h : HasDef K mg x st ps) (S : FnScope N ps (defScope st))
    (hbody : ∀ (f : Addr) (cdv : Value) (A : Around) (outer : List Env) (s : Shared) (H : Hp) (E : XK), Room k (A.deeper (envOfC x (defScope st) s.heap.objs.size f cdv)) → A.guards = some [] →
      ∃ t wb, DSs (cxOf CX0 P w K mg base N x (defScope st) f cdv A outer s H E).nox (defBody st) t wb ∧
        ∀ svs Φ, svs.length = ps.length → wf svs Φ → wb { nx := fun _ => Φ .none, rt := Φ } (svs ++ List.replicate (N.length - ps.length) .un)) :
    DefD P w K mg base (k + 1) x ps.length wf := by
  obtain ⟨f, fd, F, hm, hb⟩ := h
  exact ⟨f, fd, ps, fn_d F S (hbody f), hm, F.kp, hb⟩
end DL
/-! plain facts for the conditions -/
namespace DL
open PySem PySem.Spec PyProof.Rows L2
def isIntB : PyData → Bool
  | .int _ => true
  | .bool _ => true
  | _ => false
def isBoolB : PyData → Bool
  | .bool _ => true
  | _ => false
def isTupB : PyData → Bool
  | .tuple _ => true
  | _ => false
theorem fIsi_intE (d : PyData) (Φ : PyData → Prop) : fIsi "int" d Φ = Φ (.bool (isIntB d)) := by
  have e : kitB (tyN d) "int" = some (isIntB d) := by
    cases d with
    | none => exact (by decide +kernel : kitB "NoneType" "int" = some false)
    | bool b => exact (by decide +kernel : kitB "bool" "int" = some true)
    | int b => exact (by decide +kernel : kitB "int" "int" = some true)
    | str b => exact (by decide +kernel : kitB "str" "int" = some false)
    | list b => exact (by decide +kernel : kitB "list" "int" = some false)
    | tuple b => exact (by decide +kernel : kitB "tuple" "int" = some false)
    | dict b => exact (by decide +kernel : kitB "dict" "int" = some false)
  unfold fIsi; rw [e]
theorem fIsi_int {d : PyData} {Φ : PyData → Prop} (h : Φ (.bool (isIntB d))) : fIsi "int" d Φ := by rw [fIsi_intE]; exact h
theorem fIsi_boolE (d : PyData) (Φ : PyData → Prop) : fIsi "bool" d Φ = Φ (.bool (isBoolB d)) := by
  have e : kitB (tyN d) "bool" = some (isBoolB d) := by
    cases d with
    | none => exact (by decide +kernel : kitB "NoneType" "bool" = some false)
    | bool b => exact (by decide +kernel : kitB "bool" "bool" = some true)
    | int b => exact (by decide +kernel : kitB "int" "bool" = some false)
    | str b => exact (by decide +kernel : kitB "str" "bool" = some false)
    | list b => exact (by decide +kernel : kitB "list" "bool" = some false)
    | tuple b => exact (by decide +kernel : kitB "tuple" "bool" = some false)
    | dict b => exact (by decide +kernel : kitB "dict" "bool" = some false)
  unfold fIsi; rw [e]
theorem fIsi_bool {d : PyData} {Φ : PyData → Prop} (h : Φ (.bool (isBoolB d))) : fIsi "bool" d Φ := by rw [fIsi_boolE]; exact h
theorem fIsi_tupleE (d : PyData) (Φ : PyData → Prop) : fIsi "tuple" d Φ = Φ (.bool (isTupB d)) := by
  have e : kitB (tyN d) "tuple" = some (isTupB d) := by
    cases d with
    | none => exact (by decide +kernel : kitB "NoneType" "tuple" = some false)
    | bool b => exact (by decide +kernel : kitB "bool" "tuple" = some false)
    | int b => exact (by decide +kernel : kitB "int" "tuple" = some false)
    | str b => exact (by decide +kernel : kitB "str" "tuple" = some false)
    | list b => exact (by decide +kernel : kitB "list" "tuple" = some false)
    | tuple b => exact (by decide +kernel : kitB "tuple" "tuple" = some true)
    | dict b => exact (by decide +kernel : kitB "dict" "tuple" = some false)
  unfold fIsi; rw [e]
theorem fIsi_tuple {d : PyData} {Φ : PyData → Prop} (h : Φ (.bool (isTupB d))) : fIsi "tuple" d Φ := by rw [fIsi_tupleE]; exact h
/-- an int that is no bool -/
def numB : PyData → Bool
  | .int _ => true
  | _ => false
theorem numB_eq (d : PyData) : numB d = (isIntB d && !isBoolB d) := by cases d <;> rfl
theorem numB_int {d : PyData} (h : numB d = true) : ∃ i, d = .int i := by cases d <;> first | exact ⟨_, rfl⟩ | cases h
theorem upto_len (lo : Int) (n : Nat) : (upto lo n).length = n := by unfold upto; rw [List.length_map, List.length_range]
/-- a comprehension by what holds ahead of each turn -/
theorem lcW_from {wg : WG} {wt : WT} {we : WE} {δ : Dl} {items : List PyData} {Φ : List PyData → Prop} (I : Nat → List PyData → Prop)
    (step : ∀ i x acc (k : List PyData → Prop), items[i]? = some x → I i acc → (∀ acc', I (i + 1) acc' → k acc') →
      wg x δ fun δ2 => wt δ2 fun b => if b = true then we δ2 fun d => acc.length < sizeLine ∧ k (acc ++ [d]) else k acc)
    (hd : ∀ acc, I items.length acc → Φ acc) : ∀ (n i : Nat) (acc : List PyData), items.length - i = n → i ≤ items.length → I i acc → lcW wg wt we δ (items.drop i) acc Φ
  | 0, i, acc, hn, hi, h => by
    have e : i = items.length := by omega
    subst e
    rw [List.drop_length]
    exact hd acc h
  | n + 1, i, acc, hn, hi, h => by
    obtain ⟨x, hx, hdrop⟩ := drop_cons (show i < items.length by omega)
    rw [hdrop]
    exact step i x acc _ hx h fun acc' h' => lcW_from I step hd n (i + 1) acc' (by omega) (by omega) h'
theorem lcW_ind {wg : WG} {wt : WT} {we : WE} {δ : Dl} {items acc : List PyData} {Φ : List PyData → Prop} (I : Nat → List PyData → Prop) (h0 : I 0 acc)
    (step : ∀ i x acc (k : List PyData → Prop), items[i]? = some x → I i acc → (∀ acc', I (i + 1) acc' → k acc') →
      wg x δ fun δ2 => wt δ2 fun b => if b = true then we δ2 fun d => acc.length < sizeLine ∧ k (acc ++ [d]) else k acc)
    (hd : ∀ acc, I items.length acc → Φ acc) : lcW wg wt we δ items acc Φ :=
  lcW_from I step hd items.length 0 acc rfl (Nat.zero_le _) h0
/-- a comprehension whose parts are told one by one -/
theorem lcW_filterMap {wg : WG} {wt : WT} {we : WE} {δ : Dl} {Φ : List PyData → Prop} (p : PyData → Bool) (f : PyData → PyData) : ∀ (items acc : List PyData),
    (∀ x ∈ items, ∀ (yes : PyData → Prop) (no : Prop), (p x = true → yes (f x)) → (p x = false → no) → wg x δ fun δ2 => wt δ2 fun b => if b = true then we δ2 yes else no) →
    acc.length + items.length ≤ sizeLine → Φ (acc ++ (items.filter p).map f) → lcW wg wt we δ items acc Φ
  | [], acc, _, _, hd => by simpa [lcW] using hd
  | x :: items, acc, h, hl, hd => by
    rw [List.length_cons] at hl
    refine h x (List.mem_cons_self ..) _ _ (fun e => ⟨by omega, ?_⟩) (fun e => ?_)
    · refine lcW_filterMap p f items _ (fun y hy => h y (List.mem_cons_of_mem _ hy)) (by rw [List.length_append, List.length_singleton]; omega) ?_
      rw [List.filter_cons_of_pos e, List.map_cons] at hd
      rwa [List.append_assoc, List.singleton_append]
    · refine lcW_filterMap p f items _ (fun y hy => h y (List.mem_cons_of_mem _ hy)) (by omega) ?_
      rwa [List.filter_cons_of_neg (by rw [e]; decide)] at hd
theorem lcW_map {wg : WG} {we : WE} {δ : Dl} {Φ : List PyData → Prop} {items : List PyData} (f : PyData → PyData)
    (h : ∀ x ∈ items, ∀ yes : PyData → Prop, yes (f x) → wg x δ fun δ2 => we δ2 yes) (hl : items.length ≤ sizeLine) (hd : Φ (items.map f)) : lcW wg wYes we δ items [] Φ := by
  refine lcW_filterMap (fun _ => true) f items [] (fun x hx yes no hy _ => ?_) (by simpa using hl) (by rw [List.nil_append, List.filter_eq_self.mpr fun _ _ => rfl]; exact hd)
  exact h x hx yes (hy rfl)
theorem lcW_mapA {wg : WG} {we : WE} {δ : Dl} {Φ : List PyData → Prop} {items acc : List PyData} (f : PyData → PyData)
    (h : ∀ x ∈ items, ∀ yes : PyData → Prop, yes (f x) → wg x δ fun δ2 => we δ2 yes) (hl : acc.length + items.length ≤ sizeLine) (hd : Φ (acc ++ items.map f)) : lcW wg wYes we δ items acc Φ := by
  refine lcW_filterMap (fun _ => true) f items acc (fun x hx yes no hy _ => ?_) hl (by rw [List.filter_eq_self.mpr fun _ _ => rfl]; exact hd)
  exact h x hx yes (hy rfl)
/-- two clauses: for each of the first ones a list -/
theorem lcW2_flat {wg : WG} {wi1 : WI} {wg1 : WG} {wt1 : WT} {we : WE} {δ : Dl} {vs1 : List Nat} {Φ : List PyData → Prop} (g : PyData → List PyData) : ∀ (items acc : List PyData),
    (∀ x ∈ items, ∀ (acc : List PyData) (k : List PyData → Prop), acc.length + (g x).length ≤ sizeLine → k (acc ++ g x) → wg x δ fun δ2 => wi1 δ2 fun its => lcW wg1 wt1 we (wipeD δ2 vs1) its acc k) →
    acc.length + (items.flatMap g).length ≤ sizeLine → Φ (acc ++ items.flatMap g) → lcW2 wg wYes wi1 wg1 wt1 we δ vs1 items acc Φ
  | [], acc, _, _, hd => by simpa [lcW2] using hd
  | x :: items, acc, h, hl, hd => by
    rw [List.flatMap_cons, List.length_append] at hl
    rw [List.flatMap_cons] at hd
    refine h x (List.mem_cons_self ..) acc _ (by omega) ?_
    refine lcW2_flat g items _ (fun y hy => h y (List.mem_cons_of_mem _ hy)) (by rw [List.length_append]; omega) ?_
    rwa [List.append_assoc]
theorem forW_from {wg : WG} {wb : WS} {items : List PyData} {Φ : DP} (I : Nat → Dl → Prop)
    (step : ∀ i x δ (k : Dl → Prop), items[i]? = some x → I i δ → (∀ δ', I (i + 1) δ' → k δ') → wg x δ fun δ1 => wb { Φ with nx := k, ct := k, bk := Φ.nx } δ1)
    (hd : ∀ δ, I items.length δ → Φ.nx δ) : ∀ (n i : Nat) (δ : Dl), items.length - i = n → i ≤ items.length → I i δ → forW wg wb (items.drop i) Φ δ
  | 0, i, δ, hn, hi, h => by
    have e : i = items.length := by omega
    subst e
    rw [List.drop_length]
    exact hd δ h
  | n + 1, i, δ, hn, hi, h => by
    obtain ⟨x, hx, hdrop⟩ := drop_cons (show i < items.length by omega)
    rw [hdrop]
    exact step i x δ _ hx h fun δ' h' => forW_from I step hd n (i + 1) δ' (by omega) (by omega) h'
/-- a loop by what holds ahead of each turn -/
theorem forW_ind {wg : WG} {wb : WS} {items : List PyData} {Φ : DP} {δ : Dl} (I : Nat → Dl → Prop) (h0 : I 0 δ)
    (step : ∀ i x δ (k : Dl → Prop), items[i]? = some x → I i δ → (∀ δ', I (i + 1) δ' → k δ') → wg x δ fun δ1 => wb { Φ with nx := k, ct := k, bk := Φ.nx } δ1)
    (hd : ∀ δ, I items.length δ → Φ.nx δ) : forW wg wb items Φ δ := forW_from I step hd items.length 0 δ rfl (Nat.zero_le _) h0
theorem upto_get {lo : Int} {n i : Nat} {x : PyData} (h : (upto lo n)[i]? = some x) : x = .int (lo + (i : Nat)) ∧ i < n := by
  unfold upto at h
  rw [List.getElem?_map] at h
  obtain ⟨j, hj, rfl⟩ := Option.map_eq_some_iff.mp h
  obtain ⟨hl, hj⟩ := List.getElem?_eq_some_iff.mp hj
  rw [List.getElem_range] at hj
  rw [List.length_range] at hl
  subst hj
  exact ⟨rfl, hl⟩
end DL
namespace DL
open PySem PySem.Spec PyProof.Rows L2
theorem len1 {α : Type} {l : List α} (h : l.length = 1) : ∃ a, l = [a] := by
  match l, h with
  | [a], _ => exact ⟨a, rfl⟩
theorem len2 {α : Type} {l : List α} (h : l.length = 2) : ∃ a b, l = [a, b] := by
  match l, h with
  | [a, b], _ => exact ⟨a, b, rfl⟩
theorem len3 {α : Type} {l : List α} (h : l.length = 3) : ∃ a b c, l = [a, b, c] := by
  match l, h with
  | [a, b, c], _ => exact ⟨a, b, c, rfl⟩
theorem len4 {α : Type} {l : List α} (h : l.length = 4) : ∃ a b c d, l = [a, b, c, d] := by
  match l, h with
  | [a, b, c, d], _ => exact ⟨a, b, c, d, rfl⟩
end DL
namespace DL
open PySem PySem.Spec PyProof.Rows L2
section
variable {Φ : PyData → Prop} {C : Int → Int → Prop} {g : Int → Int → PyData} {i j : Int} {x y : Str} {xs ys : List PyData} {k : Int → Prop} {kb : Bool → Prop} {b : Bool} {lo hi : Option Int}
theorem fI_int : fI C g (.int i) (.int j) Φ = (C i j ∧ Φ (g i j)) := rfl
theorem fAdd_int : fAdd (.int i) (.int j) Φ = Φ (.int (i + j)) := rfl
theorem fAdd_str : fAdd (.str x) (.str y) Φ = (x.length + y.length ≤ sizeLine ∧ Φ (.str (x ++ y))) := rfl
theorem fAdd_list : fAdd (.list xs) (.list ys) Φ = (xs.length + ys.length ≤ sizeLine ∧ Φ (.list (xs ++ ys))) := rfl
theorem fAdd_tuple : fAdd (.tuple xs) (.tuple ys) Φ = (xs.length + ys.length ≤ sizeLine ∧ Φ (.tuple (xs ++ ys))) := rfl
theorem asI_int : asI (.int i) k = k i := rfl
theorem asB_bool : asB (.bool b) kb = kb b := rfl
theorem fSl_list : fSl (.list xs) lo hi Φ = Φ (.list (cutD xs lo hi)) := rfl
theorem fSl_tuple : fSl (.tuple xs) lo hi Φ = Φ (.tuple (cutD xs lo hi)) := rfl
theorem fEq_str : fEq (.str x) (.str y) Φ = Φ (.bool (decide (x = y))) := rfl
theorem fNe_str : fNe (.str x) (.str y) Φ = Φ (.bool (!decide (x = y))) := rfl
theorem fNe_list : fNe (.list xs) (.list ys) Φ = (SeqAt.shaped (.list xs) = true ∧ SeqAt.shaped (.list ys) = true ∧ Φ (.bool (!PyData.eqv (.list xs) (.list ys)))) := rfl
theorem fEq_unit : fEq (.tuple xs) (.tuple []) Φ = Φ (.bool xs.isEmpty) := rfl
theorem fEq_list : fEq (.list xs) (.list ys) Φ = (SeqAt.shaped (.list xs) = true ∧ SeqAt.shaped (.list ys) = true ∧ Φ (.bool (PyData.eqv (.list xs) (.list ys)))) := rfl
theorem fEq_int : fEq (.int i) (.int j) Φ = (SeqAt.shaped (.int i) = true ∧ SeqAt.shaped (.int j) = true ∧ Φ (.bool (i == j))) := by
  unfold fEq fEqG
  simp only [PyData.eqv]
  rfl
theorem fNe_int : fNe (.int i) (.int j) Φ = (SeqAt.shaped (.int i) = true ∧ SeqAt.shaped (.int j) = true ∧ Φ (.bool (!(i == j)))) := by
  unfold fNe
  simp only [PyData.eqv]
theorem shaped_int : (SeqAt.shaped (.int i) = true) = True := by
  refine eq_true ?_
  unfold SeqAt.shaped
  simp [PyData.canLay0, PyData.depth]
end
theorem canLay_ints (ns : List Int) : PyData.canLayAll0 (ns.map .int) = true := by
  induction ns with
  | nil => rfl
  | cons n r ih => simp only [List.map_cons, PyData.canLayAll0, PyData.canLay0, ih, Bool.and_true]
theorem depth_ints (ns : List Int) : PyData.depthAll (ns.map .int) = 0 := by
  induction ns with
  | nil => rfl
  | cons n r ih => simp only [List.map_cons, PyData.depthAll, PyData.depth, ih, Nat.max_self]
theorem shaped_ints_l (ns : List Int) : SeqAt.shaped (.list (ns.map .int)) = true := by
  unfold SeqAt.shaped
  simp only [PyData.canLay0, PyData.depth, canLay_ints, depth_ints, Bool.true_and]
  decide
theorem shaped_ints_t (ns : List Int) : SeqAt.shaped (.tuple (ns.map .int)) = true := by
  unfold SeqAt.shaped
  simp only [PyData.canLay0, PyData.depth, canLay_ints, depth_ints, Bool.true_and]
  decide
theorem shaped_nil_l : SeqAt.shaped (.list []) = true := shaped_ints_l []
theorem eqvAll_ints : ∀ ns ms : List Int, PyData.eqvAll (ns.map .int) (ms.map .int) = decide (ns = ms)
  | [], [] => rfl
  | [], _ :: _ => rfl
  | _ :: _, [] => rfl
  | n :: ns, m :: ms => by
    simp only [List.map_cons, PyData.eqvAll, PyData.eqv, eqvAll_ints ns ms]
    by_cases h : n = m
    · subst h
      simp
    · simp [h]
theorem eqv_ints_l (ns ms : List Int) : PyData.eqv (.list (ns.map .int)) (.list (ms.map .int)) = decide (ns = ms) := by
  simp only [PyData.eqv, eqvAll_ints]
theorem eqv_ints_t (ns ms : List Int) : PyData.eqv (.tuple (ns.map .int)) (.tuple (ms.map .int)) = decide (ns = ms) := by
  simp only [PyData.eqv, eqvAll_ints]
theorem small_line {n : Nat} (h : n ≤ 10000000) : n ≤ sizeLine := by rw [sizeLine_eq]; omega
theorem cmul_r {i j : Int} (h : -(2 ^ 64) < j ∧ j < 2 ^ 64) : CMulD i j := .inl (.inr h)
theorem cmul_l {i j : Int} (h : -(2 ^ 64) < i ∧ i < 2 ^ 64) : CMulD i j := .inl (.inl h)
theorem atI_of {α : Type} {xs : List α} {i : Int} (h0 : 0 ≤ i) (h1 : i < xs.length) : ∃ y, L2.atI xs i = some y ∧ y ∈ xs := by
  obtain ⟨j, rfl⟩ := Int.eq_ofNat_of_zero_le h0
  have hj : j < xs.length := by omega
  exact ⟨xs[j], atI_nat (List.getElem?_eq_getElem hj), List.getElem_mem hj⟩
end DL
/-! the law's entry: its pen is made of the script -/
namespace DL
open PySem PySem.Spec PyProof.Rows L2
def spPen (K : PySem.W.Frag) : Sp := fun vs H Q _ => ∃ (a : Addr) (ns : List Int), vs = [.ref a] ∧ SqL K H a (ns.map V.int) ∧
  ∀ (p g : Addr) (ns' : List Int) (H' : Hp), H p = none → Same H H' → H' p = some (.lst [.ref g, .int 0, .int 0]) → H' g = some (.lst (ns'.map V.int)) → g ≠ p → Q (.ref p) H'
def spLaw (K : PySem.W.Frag) : Sp := fun vs H Q _ => ∃ (a : Addr) (ns : List Int), vs = [.ref a] ∧ SqL K H a (ns.map V.int) ∧ ∀ H', Q (.bl true) H'
theorem pen_heap {H : Hp} {g1 g p : Addr} {xs ys : List V} (h1 : H g1 = none) (hg : upd H g1 (.lst xs) g = none) (hp : upd (upd H g1 (.lst xs)) g (.lst ys) p = none) :
    H p = none ∧ g ≠ p ∧ Same H (upd (upd (upd H g1 (.lst xs)) g (.lst ys)) p (.lst [.ref g, .int 0, .int 0])) := by
  have s1 := same_new (o := .lst xs) h1
  have s2 := same_new (o := .lst ys) hg
  have s3 := same_new (o := .lst [.ref g, .int 0, .int 0]) hp
  refine ⟨?_, ?_, fun a o e => s3 _ _ (s2 _ _ (s1 _ _ e))⟩
  · cases e : H p with
    | none => rfl
    | some o =>
      have := s2 _ _ (s1 _ _ e)
      rw [hp] at this
      cases this
  · rintro rfl
    rw [upd_same] at hp
    cases hp
theorem cut_ints (ns : List Int) (lo hi : Option Int) : cutV (ns.map V.int) lo hi = (cutD ns lo hi).map V.int := by
  unfold cutV cutD
  rw [List.length_map, List.map_take, List.map_drop]
theorem entry_slots {n : Nat} {i : Nat} {sv : SV} (h : ([SV.un, SV.pen] ++ List.replicate n SV.un)[i]? = some sv) : (i = 1 ∧ sv = .pen) ∨ sv = .un := by
  match i with
  | 0 => right; simpa using h.symm
  | 1 => left; exact ⟨rfl, by simpa using h.symm⟩
  | i + 2 =>
    right
    have : (List.replicate n SV.un)[i]? = some sv := by simpa using h
    exact (List.mem_replicate.mp (List.mem_of_getElem? this)).2
theorem pen_run {K : PySem.W.Frag} {t : TS} {wb : WS} {N : List Str} (R : DSt K t wb) (hN : 2 ≤ N.length) {H' : Hp} {p g a : Addr} {ns : List Int} (hp : H' p = some (.lst [.ref g, .int 0, .int 0]))
    (hg : H' g = some (.lst (ns.map V.int))) (ne : g ≠ p) {D : Ends} (hrt : ∀ H', D.rt (.bl true) H')
    (hw : wb { nx := fun _ => False, rt := fun d => d = .bool true } ([.un, .pen] ++ List.replicate (N.length - 2) .un)) : t D ((L2.start N [.ref a]).set 1 (some (.ref p))) H' := by
  refine R.run ⟨fun b => b = p, some p, H'⟩ (fun b => b = p) H' _ _ D _ ⟨?_, ?_, ?_, ExtP.refl, fun _ h => h, ?_, ?_, ?_, ?_⟩ hw ⟨fun _ _ _ _ _ _ z => z.elim, fun _ _ _ _ _ _ z => z.elim, fun _ _ _ _ _ _ z => z.elim, fun M' σ' δ' H2 v d I tr r q => ?_⟩
  · rw [List.length_append, List.length_replicate, List.length_set]
    unfold L2.start
    rw [List.length_append, List.length_replicate, List.length_map]
    simp only [List.length_cons, List.length_nil]
    omega
  · intro i sv e
    rcases entry_slots e with ⟨rfl, rfl⟩ | rfl
    · refine ⟨p, rfl, ?_⟩
      unfold sAt
      rw [List.getElem?_set_self]
      · rfl
      · unfold L2.start
        rw [List.length_append, List.length_replicate, List.length_map]
        simp only [List.length_cons, List.length_nil]
        omega
    · trivial
  · intro i j b ds es e
    rcases entry_slots e with ⟨_, z⟩ | z <;> cases z
  · rintro b rfl
    exact ⟨_, hp⟩
  · intro q e
    cases e
    exact ⟨rfl, g, 0, 0, ns, hp, .lst ne hg (DrA.ints ns), by decide, by decide⟩
  · intro q e
    cases e
    exact ⟨_, hp⟩
  · rintro b rfl
    exact ⟨_, hp⟩
  · have q' : d = .bool true := q
    subst q'
    cases r
    exact hrt H2
end DL
/-! x in data -/
namespace DL
open PySem PySem.Spec PyProof.Rows L2
def rMem (K : PySem.W.Frag) (g : Bool → Bool) : R2 := fun x y H Q => ∃ (M : Addr → Prop) (d e : PyData) (ds : List PyData), Dr K M H x d ∧ Dr K M H y e ∧ (e = .list ds ∨ e = .tuple ds) ∧
  d.canLay0 = true ∧ PyData.canLayAll0 ds = true ∧ d.depth ≤ 60 ∧ Q (.bl (g (ds.any fun z => PyData.eqv z d))) H
/-- membership of data: == of each, in their order -/
def fMem (g : Bool → Bool) : W2 := fun d e Φ => ∃ ds, (e = .list ds ∨ e = .tuple ds) ∧ d.canLay0 = true ∧ PyData.canLayAll0 ds = true ∧ d.depth ≤ 60 ∧ Φ (.bool (g (ds.any fun z => PyData.eqv z d)))
section
variable {X : Cx} {K : PySem.W.Frag} {a b : Expr} {ta tb : TE} {wa wb : WE} {pos : Pos}
theorem op_mem (hu : X.A.units + 64 < cLine) : OpR X (compareOp .In) (rMem X.K id) := by
  intro pins s σ H x y v u Q I rx ry h
  obtain ⟨M, d, e, ds, hd, he, hk, c1, c2, hz, q⟩ := h
  obtain ⟨as, r1, _⟩ := Dr.reads I hd rx
  obtain ⟨bs, r2, _⟩ := Dr.reads I he ry
  have room : X.A.units + 1 + min (PyData.depthAll ds) d.depth < cLine := by
    have := Nat.min_le_right (PyData.depthAll ds) d.depth
    omega
  rcases hk with rfl | rfl
  · exact SeqAt.in_list_reads r2 r1 c2 c1 room ⟨.bl _, H, I, rfl, q⟩
  · exact SeqAt.in_tuple_reads r2 r1 c2 c1 room ⟨.bl _, H, I, rfl, q⟩
theorem op_notMem (hu : X.A.units + 64 < cLine) : OpR X (compareOp .NotIn) (rMem X.K fun k => !k) := by
  intro pins s σ H x y v u Q I rx ry h
  obtain ⟨M, d, e, ds, hd, he, hk, c1, c2, hz, q⟩ := h
  obtain ⟨as, r1, _⟩ := Dr.reads I hd rx
  obtain ⟨bs, r2, _⟩ := Dr.reads I he ry
  have room : X.A.units + 1 + min (PyData.depthAll ds) d.depth < cLine := by
    have := Nat.min_le_right (PyData.depthAll ds) d.depth
    omega
  rcases hk with rfl | rfl
  · exact SeqAt.notIn_list_reads r2 r1 c2 c1 room ⟨.bl _, H, I, rfl, q⟩
  · exact SeqAt.notIn_tuple_reads r2 r1 c2 c1 room ⟨.bl _, H, I, rfl, q⟩
theorem r2_mem {g : Bool → Bool} : R2d K (rMem K g) (fMem g) := by
  intro M H x y d e Q Φ p pv al rx ry hf q
  obtain ⟨ds, h1, h2, h3, h4, hf⟩ := hf
  exact ⟨M, d, e, ds, rx, ry, h1, h2, h3, h4, q _ _ H (Same.refl H) (.bl _) hf⟩
theorem de_in {K' : PySem.W.Frag} (hu : X.A.units + 64 < cLine) (ha : DE X a ta wa) (hb : DE X b tb wb) (hm : behindInMarks .In b = false := by rfl) (hK : X.K = K' := by rfl) : DE X (.Compare a [.In] [b] pos) (tOp (rMem K' id) ta tb) (wOp (fMem id) wa wb) := by
  subst hK
  exact ⟨pe_cmpR (op_mem hu) ha.pe hb.pe hm, det_op r2_mem ha.dt hb.dt⟩
theorem de_notIn {K' : PySem.W.Frag} (hu : X.A.units + 64 < cLine) (ha : DE X a ta wa) (hb : DE X b tb wb) (hm : behindInMarks .NotIn b = false := by rfl) (hK : X.K = K' := by rfl) : DE X (.Compare a [.NotIn] [b] pos) (tOp (rMem K' fun k => !k) ta tb) (wOp (fMem fun k => !k) wa wb) := by
  subst hK
  exact ⟨pe_cmpR (op_notMem hu) ha.pe hb.pe hm, det_op r2_mem ha.dt hb.dt⟩
theorem dt_in {K' : PySem.W.Frag} (hu : X.A.units + 64 < cLine) (ha : DE X a ta wa) (hb : DE X b tb wb) (hm : behindInMarks .In b = false := by rfl) (hK : X.K = K' := by rfl) : DT X (.Compare a [.In] [b] pos) (tTest (tOp (rMem K' id) ta tb)) (wB (wOp (fMem id) wa wb)) := by
  subst hK
  exact dt_cmp (op_mem hu) r2_mem ha hb hm
theorem dt_notIn {K' : PySem.W.Frag} (hu : X.A.units + 64 < cLine) (ha : DE X a ta wa) (hb : DE X b tb wb) (hm : behindInMarks .NotIn b = false := by rfl) (hK : X.K = K' := by rfl) : DT X (.Compare a [.NotIn] [b] pos) (tTest (tOp (rMem K' fun k => !k) ta tb)) (wB (wOp (fMem fun k => !k) wa wb)) := by
  subst hK
  exact dt_cmp (op_notMem hu) r2_mem ha hb hm
end
end DL
namespace DL
open PySem PySem.Spec PyProof.Rows L2
def rOrd (K : PySem.W.Frag) (g : PyData → PyData → Bool) : R2 := fun x y H Q => ∃ (M : Addr → Prop) (d e : PyData), Dr K M H x d ∧ Dr K M H y e ∧ PySem.W.alike d e = true ∧ d ≠ .none ∧ d.depth ≤ 60 ∧ Q (.bl (g d e)) H
/-- the order of data that are alike -/
def fOrd (g : PyData → PyData → Bool) : W2 := fun d e Φ => PySem.W.alike d e = true ∧ d ≠ .none ∧ d.depth ≤ 60 ∧ Φ (.bool (g d e))
section
variable {X : Cx} {K : PySem.W.Frag} {a b : Expr} {ta tb : TE} {wa wb : WE} {pos : Pos}
theorem r2_ord {g : PyData → PyData → Bool} : R2d K (rOrd K g) (fOrd g) := by
  intro M H x y d e Q Φ p pv al rx ry hf q
  obtain ⟨h1, h2, h3, hf⟩ := hf
  exact ⟨M, d, e, rx, ry, h1, h2, h3, q _ _ H (Same.refl H) (.bl _) hf⟩
theorem room_ord {X : Cx} {d e : PyData} (hu : X.A.units + 64 < cLine) (h : d.depth ≤ 60) : X.A.units + min d.depth e.depth < cLine := by
  have := Nat.min_le_left d.depth e.depth
  omega
theorem op_ltD (hu : X.A.units + 64 < cLine) : OpR X (compareOp .Lt) (rOrd X.K fun d e => PySem.W.dataLt d e) := by
  intro pins s σ H x y v u Q I rx ry h
  obtain ⟨M, d, e, hd, he, al, nn, hz, q⟩ := h
  obtain ⟨as, r1, _⟩ := Dr.reads I hd rx
  obtain ⟨bs, r2, _⟩ := Dr.reads I he ry
  exact PySem.W.lt_data r1 r2 al nn (room_ord hu hz) ⟨.bl _, H, I, rfl, q⟩
theorem op_gtD (hu : X.A.units + 64 < cLine) : OpR X (compareOp .Gt) (rOrd X.K fun d e => PySem.W.dataLt e d) := by
  intro pins s σ H x y v u Q I rx ry h
  obtain ⟨M, d, e, hd, he, al, nn, hz, q⟩ := h
  obtain ⟨as, r1, _⟩ := Dr.reads I hd rx
  obtain ⟨bs, r2, _⟩ := Dr.reads I he ry
  exact PySem.W.gt_data r1 r2 al nn (room_ord hu hz) ⟨.bl _, H, I, rfl, q⟩
theorem op_leD (hu : X.A.units + 64 < cLine) : OpR X (compareOp .LtE) (rOrd X.K fun d e => !PySem.W.dataLt e d) := by
  intro pins s σ H x y v u Q I rx ry h
  obtain ⟨M, d, e, hd, he, al, nn, hz, q⟩ := h
  obtain ⟨as, r1, _⟩ := Dr.reads I hd rx
  obtain ⟨bs, r2, _⟩ := Dr.reads I he ry
  exact PySem.W.le_data r1 r2 al nn (room_ord hu hz) ⟨.bl _, H, I, rfl, q⟩
theorem op_geD (hu : X.A.units + 64 < cLine) : OpR X (compareOp .GtE) (rOrd X.K fun d e => !PySem.W.dataLt d e) := by
  intro pins s σ H x y v u Q I rx ry h
  obtain ⟨M, d, e, hd, he, al, nn, hz, q⟩ := h
  obtain ⟨as, r1, _⟩ := Dr.reads I hd rx
  obtain ⟨bs, r2, _⟩ := Dr.reads I he ry
  exact PySem.W.ge_data r1 r2 al nn (room_ord hu hz) ⟨.bl _, H, I, rfl, q⟩
theorem de_ltD {K' : PySem.W.Frag} (hu : X.A.units + 64 < cLine) (ha : DE X a ta wa) (hb : DE X b tb wb) (hK : X.K = K' := by rfl) : DE X (.Compare a [.Lt] [b] pos) (tOp (rOrd K' fun d e => PySem.W.dataLt d e) ta tb) (wOp (fOrd fun d e => PySem.W.dataLt d e) wa wb) := by
  subst hK
  exact ⟨pe_cmpR (op_ltD hu) ha.pe hb.pe (nomark _), det_op r2_ord ha.dt hb.dt⟩
theorem dt_ltD {K' : PySem.W.Frag} (hu : X.A.units + 64 < cLine) (ha : DE X a ta wa) (hb : DE X b tb wb) (hK : X.K = K' := by rfl) : DT X (.Compare a [.Lt] [b] pos) (tTest (tOp (rOrd K' fun d e => PySem.W.dataLt d e) ta tb)) (wB (wOp (fOrd fun d e => PySem.W.dataLt d e) wa wb)) := by
  subst hK
  exact dt_cmp (op_ltD hu) r2_ord ha hb (nomark _)
theorem de_gtD {K' : PySem.W.Frag} (hu : X.A.units + 64 < cLine) (ha : DE X a ta wa) (hb : DE X b tb wb) (hK : X.K = K' := by rfl) : DE X (.Compare a [.Gt] [b] pos) (tOp (rOrd K' fun d e => PySem.W.dataLt e d) ta tb) (wOp (fOrd fun d e => PySem.W.dataLt e d) wa wb) := by
  subst hK
  exact ⟨pe_cmpR (op_gtD hu) ha.pe hb.pe (nomark _), det_op r2_ord ha.dt hb.dt⟩
theorem de_leD {K' : PySem.W.Frag} (hu : X.A.units + 64 < cLine) (ha : DE X a ta wa) (hb : DE X b tb wb) (hK : X.K = K' := by rfl) : DE X (.Compare a [.LtE] [b] pos) (tOp (rOrd K' fun d e => !PySem.W.dataLt e d) ta tb) (wOp (fOrd fun d e => !PySem.W.dataLt e d) wa wb) := by
  subst hK
  exact ⟨pe_cmpR (op_leD hu) ha.pe hb.pe (nomark _), det_op r2_ord ha.dt hb.dt⟩
theorem de_geD {K' : PySem.W.Frag} (hu : X.A.units + 64 < cLine) (ha : DE X a ta wa) (hb : DE X b tb wb) (hK : X.K = K' := by rfl) : DE X (.Compare a [.GtE] [b] pos) (tOp (rOrd K' fun d e => !PySem.W.dataLt d e) ta tb) (wOp (fOrd fun d e => !PySem.W.dataLt d e) wa wb) := by
  subst hK
  exact ⟨pe_cmpR (op_geD hu) ha.pe hb.pe (nomark _), det_op r2_ord ha.dt hb.dt⟩
end
end DL
/-! sorted(..) of a list of data -/
namespace DL
open PySem PySem.Spec PyProof.Rows L2
open PySem.W (AllAlike Sortable dataLe EachIs)
section
variable {K : PySem.W.Frag} {M : Addr → Prop} {H : Hp}
theorem each_of : ∀ {xs : List V} {ds : List PyData} {us : List Value}, DrA K M H xs ds → Vals xs us → EachIs (fun u (z : V × PyData) => RelV z.1 u ∧ Dr K M H z.1 z.2) us (xs.zip ds)
  | _, _, _, .nil, r => by cases r; exact .nil
  | _, _, _, .cons h t, r => by
    cases r with
    | cons r1 r2 => exact .cons ⟨r1, h⟩ (each_of t r2)
theorem each_vals : ∀ {out : List Value} {zs : List (V × PyData)}, EachIs (fun u (z : V × PyData) => RelV z.1 u ∧ Dr K M H z.1 z.2) out zs → Vals (zs.map (·.1)) out ∧ DrA K M H (zs.map (·.1)) (zs.map (·.2))
  | _, _, .nil => ⟨.nil, .nil⟩
  | _, _, .cons h t => ⟨.cons h.1 (each_vals t).1, .cons h.2 (each_vals t).2⟩
end
def sortedD (ds : List PyData) : List PyData := ds.mergeSort (dataLe false id)
theorem sorted_snd (zs : List (V × PyData)) : (zs.mergeSort (dataLe false fun z => z.2)).map (·.2) = sortedD (zs.map (·.2)) := by
  unfold sortedD
  exact List.map_mergeSort fun a _ b _ => rfl
def rSortD (K : PySem.W.Frag) : List V → Hp → VK → Prop := fun vs H Q => ∃ (M : Addr → Prop) (a : Addr) (xs : List V) (ds : List PyData), vs = [.ref a] ∧ SqL K H a xs ∧ DrA K M H xs ds ∧ AllAlike ds ∧ Sortable ds ∧ (∀ d ∈ ds, d.depth ≤ 60) ∧
  ∀ ys p, DrA K M H ys (sortedD ds) → H p = none → Q (.ref p) (upd H p (.lst ys))
theorem sortedD_len (ds : List PyData) : (sortedD ds).length = ds.length := List.length_mergeSort ..
section
variable {X : Cx}
theorem call_sortD (hu : X.A.units + 64 < cLine) : CallR X (.builtin "sorted") (rSortD X.K) := by
  intro pins s σ H vs us Q I r h
  obtain ⟨M, a, xs, ds, rfl, hs, rd, hal, hk, hd, q⟩ := h
  obtain ⟨its, rv, hl, hz⟩ := I.list hs
  obtain ⟨u, rfl, ru⟩ := vals1 r
  obtain rfl : u = Value.ref a := ru
  have hlen := rd.length
  have e := each_of rd rv
  have em : (xs.zip ds).map (fun z => z.2) = ds := List.map_snd_zip (by omega)
  refine PySem.W.sorted_data (enc := fun z : V × PyData => z.2) hl.isList e (e.mono fun v z hz => ?_) (by rw [em]; exact hal) (by rw [em]; exact hk) (by rw [List.length_zip]; omega) (fun z hz => ?_) fun out ho eo => ?_
  · obtain ⟨as, r1, _⟩ := Dr.reads I hz.2 hz.1
    exact ⟨as, r1⟩
  · have := hd z.2 (by rw [← em]; exact List.mem_map.mpr ⟨z, hz, rfl⟩)
    omega
  · obtain ⟨v1, d1⟩ := each_vals eo
    rw [sorted_snd, em] at d1
    obtain ⟨n, hn⟩ := sortedAll_at s.heap its out.toArray
    have hp : s.heap.objs.size ≤ s.heap.objs.size + 1 := Nat.le_succ _
    refine ⟨.ref (s.heap.objs.size + 1), upd H (s.heap.objs.size + 1) (.lst _), I.laid (t' := s.toks) (fun b o e => sortedAll_old e) hp ⟨?_, out, n, v1, hn⟩, rfl, q _ _ d1 (I.hok.fresh hp)⟩
    have := d1.length
    rw [sortedD_len] at this
    omega
end
def fSortD (d : PyData) (Φ : PyData → Prop) : Prop := ∃ ds, d = .list ds ∧ AllAlike ds ∧ Sortable ds ∧ (∀ e ∈ ds, e.depth ≤ 60) ∧ Φ (.list (sortedD ds))
theorem cd_sortD {K : PySem.W.Frag} : CallD K (rSortD K) (f1 fSortD) := by
  refine ⟨fun M H vs svs Q Φ p pv al r hf q => ?_⟩
  replace hf := f1_out hf
  obtain ⟨d, rfl, ds, rfl, h1, h2, h3, hf⟩ := hf
  replace r := args1 r
  obtain ⟨v, rfl, r⟩ := r
  cases r with
  | lst n ha ra =>
  refine ⟨M, _, _, ds, rfl, SqL.of ha, ra, h1, h2, h3, fun ys p hy hp => ?_⟩
  refine q _ _ _ (same_new hp) (.lst (fun m => ?_) upd_same (hy.stays (Stays.of_same (same_new hp)))) hf
  obtain ⟨o, e⟩ := al _ m
  rw [hp] at e
  cases e
section
variable {X : Cx} {K : PySem.W.Frag} {e : Expr} {t : TA} {wa : WA} {p pos : Pos}
theorem de_sorted {K' : PySem.W.Frag} (hu : X.A.units + 64 < cLine) (hm : X.mg "sorted" = none) (ha : DA X [e] t wa) (hg : Gl X "sorted" := by rfl)
    (he : starEach [e] X.env = (false, eval e X.env) :: starEach [] X.env := by rfl) (hpl : (backTo pos (starEach [] X.env)).any (·.1) = false := by rfl) (hK : X.K = K' := by rfl) :
    DE X (.Call (.Name "sorted" p) [e] [] pos) (tCB (rSortD K') t) (wCall (f1 fSortD) wa) := by
  subst hK
  exact de_cb (call_sortD hu) cd_sortD hg hm (by decide +kernel) ha (he := he) (hpl := hpl)
end
end DL
/-! Tables of sets, at any mask whose round meets all slots: where a hash comes to lie, one more put in, all laid anew. -/
namespace ST
open PySem PySem.Spec PyProof.Rows L2
/-- from each slot the round comes to each slot -/
def Round (m : Nat) : Prop := m % 2 = 1 ∧ ∀ i j, i ≤ m → j ≤ m → ∃ k, k ≤ m ∧ lcgI m i k = j
theorem round_small {m : Nat} (h : MaskOk m) : Round m := ⟨mask_odd h, fun _ _ hi hj => lcgI_all h hi hj⟩
/-- the slots from x on, n of them -/
def orbit (m : Nat) : Nat → Nat → List Nat
  | 0, _ => []
  | n + 1, x => x :: orbit m n ((x * 5 + 1) % (m + 1))
theorem lcgI_front (m x : Nat) : ∀ k, lcgI m ((x * 5 + 1) % (m + 1)) k = lcgI m x (k + 1)
  | 0 => rfl
  | k + 1 => by
    show (lcgI m ((x * 5 + 1) % (m + 1)) k * 5 + 1) % (m + 1) = _
    rw [lcgI_front m x k]
    rfl
theorem orbit_at (m : Nat) : ∀ (n x j : Nat), j ∈ orbit m n x → ∃ k, k < n ∧ lcgI m x k = j
  | 0, _, _, h => absurd h (by unfold orbit; exact List.not_mem_nil)
  | n + 1, x, j, h => by
    unfold orbit at h
    rcases List.mem_cons.mp h with e | h
    · exact ⟨0, Nat.succ_pos n, e.symm⟩
    · obtain ⟨k, hk, e⟩ := orbit_at m n _ j h
      exact ⟨k + 1, Nat.succ_lt_succ hk, by rw [← lcgI_front]; exact e⟩
theorem lcgI_more (m x a : Nat) : ∀ k, lcgI m (lcgI m x a) k = lcgI m x (a + k)
  | 0 => rfl
  | k + 1 => by
    show (lcgI m (lcgI m x a) k * 5 + 1) % (m + 1) = (lcgI m x (a + k) * 5 + 1) % (m + 1)
    rw [lcgI_more m x a k]
/-- it is enough that the round from 0 has all slots, and ends at 0 -/
theorem round_of {m : Nat} (ho : m % 2 = 1) (h : ((List.range (m + 1)).all fun j => (orbit m (m + 1) 0).any (Nat.beq j)) = true) (he : lcgI m 0 (m + 1) = 0) : Round m := by
  have reach : ∀ j, j ≤ m → ∃ k, k < m + 1 ∧ lcgI m 0 k = j := fun j hj => by
    have h1 := List.all_eq_true.mp h j (List.mem_range.mpr (Nat.lt_succ_of_le hj))
    obtain ⟨x, hx, e⟩ := List.any_eq_true.mp h1
    exact orbit_at m _ _ _ (Nat.eq_of_beq_eq_true e ▸ hx)
  refine ⟨ho, fun i j hi hj => ?_⟩
  obtain ⟨a, ha, ea⟩ := reach i hi
  obtain ⟨b, hb, eb⟩ := reach j hj
  have again : lcgI m 0 (m + 1 + b) = j := by
    rw [← lcgI_more, he]
    exact eb
  subst ea
  rcases Nat.lt_or_ge b a with c | c
  · exact ⟨m + 1 + b - a, by omega, by rw [lcgI_more, show a + (m + 1 + b - a) = m + 1 + b by omega]; exact again⟩
  · exact ⟨b - a, by omega, by rw [lcgI_more, show a + (b - a) = b by omega]; exact eb⟩
theorem round_511 : Round 511 := round_of rfl (by decide +kernel) (by decide +kernel)

/-! ### the way meets all slots -/
theorem run_short (m i : Nat) : SetTable.runEnd m i - i + 1 ≤ 10 := by
  unfold SetTable.runEnd
  split <;> omega
theorem off_le (m : Nat) : ∀ n i b, off m i b n ≤ 10 * n
  | 0, _, _ => Nat.le_refl 0
  | n + 1, i, b => by
    have h1 := run_short m i
    have h2 := off_le m n (SetTable.leap m i b).1 (SetTable.leap m i b).2
    show SetTable.runEnd m i - i + 1 + off m (SetTable.leap m i b).1 (SetTable.leap m i b).2 n ≤ 10 * (n + 1)
    omega
/-- the k-th step of the way is at the slot's run -/
theorem meets {m : Nat} (R : Round m) (h : Int) {j : Nat} (hj : j ≤ m) :
    ∃ n, n < SetTable.turns m ∧ way m h (off m (SetTable.bits h % (m + 1)) (SetTable.bits h) n) = j := by
  obtain ⟨k, hk, e⟩ := R.2 (runI m (SetTable.bits h) 12) j (runI_le m _ 12) hj
  refine ⟨12 + k, by unfold SetTable.turns; omega, ?_⟩
  have e1 := congrArg SetTable.Probe.j (nth_off m (12 + k) (SetTable.bits h % (m + 1)) (SetTable.bits h))
  rw [itL_run, runI_tail (bits_lt h)] at e1
  exact e1.trans e
/-- the first slot of the way that is not in l: l has fewer than all slots -/
theorem free_on {m : Nat} (R : Round m) (h : Int) (l : List Nat) (hl : l.length ≤ m) :
    ∃ n K, n < SetTable.turns m ∧ K ≤ off m (SetTable.bits h % (m + 1)) (SetTable.bits h) n ∧ K < 10 * SetTable.turns m ∧ way m h K ∉ l ∧ ∀ c, c < K → way m h c ∈ l := by
  obtain ⟨j, hj, out⟩ := st_missing l (m + 1) (Nat.lt_succ_of_le hl)
  obtain ⟨n, hn, e⟩ := meets R h (Nat.le_of_lt_succ hj)
  obtain ⟨K, k1, k2, k3⟩ := st_least (p := fun c => way m h c ∉ l) _ (show way m h (off m (SetTable.bits h % (m + 1)) (SetTable.bits h) n) ∉ l by rw [e]; exact out)
  have k4 := off_le m n (SetTable.bits h % (m + 1)) (SetTable.bits h)
  exact ⟨n, K, hn, k1, by omega, k2, fun c hc => Classical.not_not.mp (k3 c hc)⟩
theorem inside (m : Nat) : ∀ (k : Nat) (p : SetTable.Probe), p.j + p.more ≤ m → (nth m p k).j ≤ m := fun k p hp => by
  have := nth_in k p hp
  omega
theorem way_in {m : Nat} (h : Int) (k : Nat) : way m h k ≤ m := by
  refine inside m k _ ?_
  have h1 : SetTable.bits h % (m + 1) ≤ m := Nat.le_of_lt_succ (Nat.mod_lt _ (Nat.succ_pos m))
  have h2 := (runEnd_bd h1).1
  show SetTable.bits h % (m + 1) + (SetTable.runEnd m (SetTable.bits h % (m + 1)) - SetTable.bits h % (m + 1)) ≤ m
  omega

/-! ### the table -/
/-- the entry with this hash at this slot is come to: all slots ahead of it on its way are taken -/
def Come (m : Nat) (l : List Nat) (x : Int × Nat) : Prop := ∃ K, way m x.1 K = x.2 ∧ ∀ c, c < K → way m x.1 c ∈ l
theorem Come.mono {m : Nat} {l l' : List Nat} {x : Int × Nat} (h : Come m l x) (s : ∀ j ∈ l, j ∈ l') : Come m l' x := by
  obtain ⟨K, e, b⟩ := h
  exact ⟨K, e, fun c hc => s _ (b c hc)⟩
structure TB (t : SetTable) (hs : List Int) : Prop where
  round : Round t.mask
  up : Ris t.place.toList
  clean : t.dummies = #[]
  len : t.place.toList.length = hs.length
  le : ∀ j ∈ t.place.toList, j ≤ t.mask
  come : ∀ x ∈ hs.zip t.place.toList, Come t.mask t.place.toList x
theorem zip_take_drop {α β : Type} (a : List α) (b : List β) (p : Nat) (x : α) (y : β) (h : a.length = b.length) :
    (a.take p ++ x :: a.drop p).zip (b.take p ++ y :: b.drop p) = (a.zip b).take p ++ (x, y) :: (a.zip b).drop p := by
  rw [List.zip_append (by rw [List.length_take, List.length_take, h]), List.zip_cons_cons]
  have e1 : (a.take p).zip (b.take p) = (a.zip b).take p := by unfold List.zip; exact (List.take_zipWith ..).symm
  have e2 : (a.drop p).zip (b.drop p) = (a.zip b).drop p := by unfold List.zip; exact (List.drop_zipWith ..).symm
  rw [e1, e2]
/-- ONE MORE -/
theorem TB.more {t : SetTable} {hs : List Int} (T : TB t hs) {h : Int} {K : Nat} (out : way t.mask h K ∉ t.place.toList) (ahead : ∀ c, c < K → way t.mask h c ∈ t.place.toList) :
    TB (t.put (way t.mask h K)).1 (hs.take (SetTable.below t.place (way t.mask h K)) ++ h :: hs.drop (SetTable.below t.place (way t.mask h K))) := by
  obtain ⟨j, ej⟩ : ∃ j, way t.mask h K = j := ⟨_, rfl⟩
  have hjm : j ≤ t.mask := ej ▸ way_in h K
  rw [ej] at out ⊢
  obtain ⟨c1, _⟩ := below_cut T.up j
  have c1' : SetTable.below t.place j ≤ t.place.toList.length := by rw [Array.length_toList]; exact c1
  have pl := put_place t j
  have sub : ∀ x ∈ t.place.toList, x ∈ (t.put j).1.place.toList := fun x hx => by rw [pl]; exact mem_ins.mpr (.inr hx)
  refine ⟨T.round, ris_insert T.up fun e => out (List.mem_of_getElem? (by rw [Array.getElem?_toList]; exact e)), put_dm T.clean j, ?_, fun x hx => ?_, fun x hx => ?_⟩
  · rw [pl, len_ins _ c1', len_ins _ (by rw [← T.len]; exact c1'), T.len]
  · rw [pl] at hx
    rcases mem_ins.mp hx with e | z
    · exact e ▸ hjm
    · exact T.le x z
  · rw [pl, zip_take_drop hs t.place.toList _ h j T.len.symm] at hx
    show Come t.mask _ x
    rcases mem_ins.mp hx with e | z
    · subst e
      exact ⟨K, ej, fun c hc => sub _ (ahead c hc)⟩
    · exact (T.come x z).mono sub
/-- what has this hash lies ahead of the first free slot -/
theorem TB.ahead {t : SetTable} {hs : List Int} (T : TB t hs) {h : Int} {K j : Nat} (out : way t.mask h K ∉ t.place.toList) (hx : (h, j) ∈ hs.zip t.place.toList) : ∃ c, c < K ∧ way t.mask h c = j := by
  obtain ⟨c, e, b⟩ := T.come _ hx
  have hj : j ∈ t.place.toList := (List.of_mem_zip hx).2
  refine ⟨c, ?_, e⟩
  rcases Nat.lt_trichotomy c K with z | z | z
  · exact z
  · rw [← z] at out
    exact absurd (show way t.mask h c ∈ t.place.toList from (show way t.mask h c = j from e) ▸ hj) out
  · exact absurd (b K z) out
end ST
/-! a table laid anew -/
namespace ST
open PySem PySem.Spec PyProof.Rows L2
/-- the slots js are given to the hashes done, one after another -/
structure Laid (m : Nat) (done : List Int) (js : List Nat) (O : Array (Option Nat)) : Prop where
  size : O.size = m + 1
  len : js.length = done.length
  nd : js.Nodup
  le : ∀ j ∈ js, j ≤ m
  has : ∀ j k, j ≤ m → (oAt O j = some k ↔ js[k]? = some j)
  come : ∀ x ∈ done.zip js, Come m js x
theorem Laid.taken {m : Nat} {done : List Int} {js : List Nat} {O : Array (Option Nat)} (L : Laid m done js O) {j : Nat} (hj : j ≤ m) : (oAt O j).isNone = false ↔ j ∈ js := by
  constructor
  · intro h
    cases e : oAt O j with
    | none => rw [e] at h; cases h
    | some k => exact List.mem_of_getElem? ((L.has j k hj).mp e)
  · intro h
    obtain ⟨k, hk, e⟩ := List.getElem_of_mem h
    rw [(L.has j k hj).mpr (by rw [List.getElem?_eq_getElem hk, e])]
    rfl
theorem Laid.first (m : Nat) : Laid m [] [] (Array.replicate (m + 1) none) where
  size := Array.size_replicate
  len := rfl
  nd := List.nodup_nil
  le := fun _ h => absurd h List.not_mem_nil
  has := fun j k hj => by
    rw [oAt_init hj]
    exact Iff.intro (fun e => (nomatch e)) (fun e => (nomatch e))
  come := fun _ h => absurd h List.not_mem_nil
theorem Laid.next {m : Nat} (R : Round m) {done : List Int} {js : List Nat} {O : Array (Option Nat)} (L : Laid m done js O) (room : done.length ≤ m) (h : Int) :
    ∃ j, stepF m (some (O, done.length)) h = some (O.setIfInBounds j (some done.length), (done ++ [h]).length) ∧ Laid m (done ++ [h]) (js ++ [j]) (O.setIfInBounds j (some done.length)) := by
  obtain ⟨n, K, hn, hK, _, out, ahead⟩ := free_on R h js (by rw [L.len]; exact room)
  have free : ∀ c, c < K → (oAt O (way m h c)).isNone = false := fun c hc => (L.taken (way_in h c)).mpr (ahead c hc)
  have open_ : (oAt O (way m h K)).isNone = true := by
    cases e : (oAt O (way m h K)).isNone
    · exact absurd ((L.taken (way_in h K)).mp e) out
    · rfl
  have word := free_spec m O (SetTable.turns m) n _ _ K hn hK free open_
  obtain ⟨j, ej⟩ : ∃ j, way m h K = j := ⟨_, rfl⟩
  have hj : j ≤ m := ej ▸ way_in h K
  have hjO : j < O.size := by rw [L.size]; exact Nat.lt_succ_of_le hj
  rw [ej] at out
  refine ⟨j, ?_, ?_⟩
  · rw [stepF_some (word.trans (congrArg some ej)), List.length_append, List.length_singleton]
  · refine ⟨by rw [Array.size_setIfInBounds]; exact L.size, by rw [List.length_append, List.length_append, L.len]; rfl, ?_, fun i hi => ?_, fun i k hi => ?_, fun x hx => ?_⟩
    · refine List.nodup_append.mpr ⟨L.nd, List.pairwise_singleton _ _, fun a ha b hb e => ?_⟩
      rw [List.mem_singleton.mp hb] at e
      exact out (e ▸ ha)
    · rcases List.mem_append.mp hi with z | z
      · exact L.le i z
      · rw [List.mem_singleton.mp z]; exact hj
    · by_cases c : i = j
      · subst c
        rw [oAt_set_self _ hjO]
        constructor
        · intro e
          rw [← Option.some.inj e, ← L.len, List.getElem?_append_right (Nat.le_refl _), Nat.sub_self]
          rfl
        · intro e
          rcases Nat.lt_or_ge k js.length with z | z
          · rw [List.getElem?_append_left z] at e
            exact absurd (List.mem_of_getElem? e) out
          · have hk : k = js.length := by
              have := (List.getElem?_eq_some_iff.mp e).1
              rw [List.length_append, List.length_singleton] at this
              omega
            rw [hk, L.len]
      · rw [oAt_set_ne _ c, L.has i k hi]
        constructor
        · intro e
          rw [List.getElem?_append_left (List.getElem?_eq_some_iff.mp e).1]
          exact e
        · intro e
          rcases Nat.lt_or_ge k js.length with z | z
          · rw [List.getElem?_append_left z] at e
            exact e
          · rw [List.getElem?_append_right z] at e
            have := List.mem_of_getElem? e
            exact absurd (List.mem_singleton.mp this) c
    · rw [List.zip_append L.len.symm] at hx
      rcases List.mem_append.mp hx with z | z
      · exact (L.come x z).mono fun i hi => List.mem_append_left _ hi
      · rw [List.zip_cons_cons, List.zip_nil_left, List.mem_singleton] at z
        subst z
        exact ⟨K, ej, fun c hc => List.mem_append_left _ (ahead c hc)⟩
theorem laid_all {m : Nat} (R : Round m) : ∀ (rest done : List Int) (js : List Nat) (O : Array (Option Nat)), Laid m done js O → done.length + rest.length ≤ m →
    ∃ js' O' n, rest.foldl (stepF m) (some (O, done.length)) = some (O', n) ∧ Laid m (done ++ rest) js' O'
  | [], done, js, O, L, _ => ⟨js, O, done.length, rfl, by rw [List.append_nil]; exact L⟩
  | h :: rest, done, js, O, L, room => by
    rw [List.length_cons] at room
    obtain ⟨j, e, L1⟩ := L.next R (by omega) h
    obtain ⟨js', O', n, e2, L2⟩ := laid_all R rest (done ++ [h]) _ _ L1 (by rw [List.length_append, List.length_singleton]; omega)
    refine ⟨js', O', n, by rw [List.foldl_cons, e]; exact e2, ?_⟩
    rw [List.append_assoc] at L2
    exact L2
/-- ALL ANEW: which entry comes where, and the table -/
theorem anew {t : SetTable} {hs : Array Int} {wanted M : Nat} (hw : SetTable.sizeAbove wanted - 1 = M) (R : Round M) (room : hs.size ≤ M) :
    ∃ t' order, t.relaid hs wanted = some (t', order) ∧ order.toList.Perm (List.range hs.size) ∧ TB t' (order.toList.map fun i => hs.getD i 0) ∧ t'.mask = M ∧ t'.led = t.led ∧ t'.plain = t.plain := by
  obtain ⟨js, O, n, e, L⟩ := laid_all R hs.toList [] [] _ (Laid.first M) (by rw [Array.length_toList]; show 0 + hs.size ≤ M; omega)
  rw [List.nil_append] at L
  have el : SetTable.layClean M hs = some O := by
    rw [layClean_eq, show (some (Array.replicate (M + 1) none, 0) : Option (Array (Option Nat) × Nat)) = some (Array.replicate (M + 1) none, ([] : List Int).length) from rfl, e]
    rfl
  have rise := ris_live (fun j => O.getD j none) (List.range (M + 1)) (by unfold Ris; first | exact List.pairwise_lt_range | exact List.pairwise_lt_range _)
  have up : Ris ((liveOf M O).map Prod.fst) := rise.1
  have mem : ∀ j k, (j, k) ∈ liveOf M O ↔ js[k]? = some j := fun j k => by
    rw [mem_live L.size]
    constructor
    · rintro ⟨hj, z⟩
      exact (L.has j k hj).mp z
    · intro z
      have hj := L.le j (List.mem_of_getElem? z)
      exact ⟨hj, (L.has j k hj).mpr z⟩
  have fst : ∀ j, j ∈ (liveOf M O).map Prod.fst ↔ j ∈ js := fun j => by
    rw [List.mem_map]
    constructor
    · rintro ⟨⟨a, k⟩, z, rfl⟩
      exact List.mem_of_getElem? ((mem a k).mp z)
    · intro z
      obtain ⟨k, hk, ek⟩ := List.getElem_of_mem z
      exact ⟨(j, k), (mem j k).mpr (by rw [List.getElem?_eq_getElem hk, ek]), rfl⟩
  have ndf : ((liveOf M O).map Prod.fst).Nodup := up.imp fun z => Nat.ne_of_lt z
  have size : (liveOf M O).length = hs.size := by
    have a := nat_nodup_len _ js ndf fun x hx => (fst x).mp hx
    have b := nat_nodup_len js _ L.nd fun x hx => (fst x).mpr hx
    rw [List.length_map] at a b
    rw [← Array.length_toList, ← L.len]
    omega
  refine ⟨tabOf t M O, ((liveOf M O).map Prod.snd).toArray, by rw [relaid_eq, hw, el]; rfl, ?_, ⟨R, up, rfl, ?_, fun j hj => ?_, fun x hx => ?_⟩, rfl, rfl, rfl⟩
  · refine perm_range hs.size _ ?_ fun k hk => ?_
    · show ((liveOf M O).map Prod.snd).length = hs.size
      rw [List.length_map, size]
    · have hkj : k < js.length := by rw [L.len, Array.length_toList]; exact hk
      exact List.mem_map.mpr ⟨(js[k], k), (mem _ k).mpr (List.getElem?_eq_getElem hkj), rfl⟩
  · show ((liveOf M O).map Prod.fst).length = (((liveOf M O).map Prod.snd).map fun i => hs.getD i 0).length
    rw [List.length_map, List.length_map, List.length_map]
  · exact L.le j ((fst j).mp hj)
  · have hx' : x ∈ (((liveOf M O).map Prod.snd).map fun i => hs.getD i 0).zip ((liveOf M O).map Prod.fst) := hx
    rw [List.map_map, List.zip_map', List.mem_map] at hx'
    obtain ⟨⟨j, k⟩, z, rfl⟩ := hx'
    have hj := (mem j k).mp z
    have hk := (List.getElem?_eq_some_iff.mp hj).1
    rw [L.len] at hk
    have eh : hs.getD k 0 = hs.toList[k] := by
      rw [Array.getD_eq_getD_getElem?, ← Array.getElem?_toList, List.getElem?_eq_getElem hk]
      rfl
    have zz : (hs.toList[k], j) ∈ hs.toList.zip js := by
      refine List.mem_iff_getElem?.mpr ⟨k, ?_⟩
      rw [List.getElem?_zip_eq_some]
      exact ⟨List.getElem?_eq_getElem hk, hj⟩
    show Come M ((liveOf M O).map Prod.fst) (hs.getD k 0, j)
    rw [eh]
    exact (L.come _ zz).mono fun i hi => (fst i).mpr hi
end ST
/-! Sets of nested tuples: what a key answers, and the search for one. -/
namespace ST
open PySem PySem.Spec PyProof.Rows L2
mutual
/-- numbers and None alone, at any depth -/
def bare : NestedKey → Bool
  | .none => true
  | .num _ => true
  | .text _ => false
  | .tup ks => bareAll ks
def bareAll : List NestedKey → Bool
  | [] => true
  | k :: ks => bare k && bareAll ks
end
section
variable {P : Program} {w : World} {s : Shared}
/-- f answers b of the value, and nothing changes -/
def Says (P : Program) (w : World) (s : Shared) (b : Bool) (f : Sem Bool) : Prop := ∀ (A : Around) (E : Value → Shared → Prop) (Q : Bool → Shared → Prop), Q b s → wpAny (model P w) A f Q E s
theorem says_pure (b : Bool) : Says P w s b (pure b) := fun _ _ _ q => wpAny_pure q
/-- a loop that goes to its end -/
theorem loop_end {α : Type} {A : Around} {E : Value → Shared → Prop} (f : Value → Option α × PUnit → Sem (ForInStep (Option α × PUnit))) (vs : Array Value) {Q : Option α × PUnit → Shared → Prop} (h : ∀ v ∈ vs.toList, ∀ Q' : ForInStep (Option α × PUnit) → Shared → Prop, Q' (.yield (none, ⟨⟩)) s → wpAny (model P w) A (f v (none, ⟨⟩)) Q' E s)
    (q : Q (none, ⟨⟩) s) : wpAny (model P w) A (forIn vs (none, ⟨⟩) f) Q E s := by
  rw [← Array.forIn_toList]
  refine wpAny_forIn_list f (fun rest r z => r = (none, ⟨⟩) ∧ z = s ∧ ∀ v ∈ rest, v ∈ vs.toList) _ ?_ ?_ _ _ ⟨rfl, rfl, fun v hv => hv⟩
  · rintro v rest r z ⟨rfl, rfl, sub⟩
    exact h v (sub v List.mem_cons_self) _ ⟨rfl, rfl, fun u hu => sub u (List.mem_cons_of_mem v hu)⟩
  · rintro r z ⟨rfl, rfl, _⟩
    exact q
mutual
theorem class_key : ∀ (k : NestedKey) (v : Value) (n : Nat), NestedIs s.heap k v → k.depth ≤ n → Says P w s false (ofAClassStatement n v)
  | .none, _, n, x, _ => by cases x; cases n <;> exact says_pure false
  | .num i, _, n, x, _ => by cases x <;> cases n <;> exact says_pure false
  | .text y, _, n, x, _ => by cases x; cases n <;> exact says_pure false
  | .tup ks, _, 0, _, hn => by simp [NestedKey.depth] at hn
  | .tup ks, _, n + 1, x, hn => by
    cases x with
    | tup hg hc hd hk =>
    rename_i a o vs c
    have sub := class_keys ks vs.toList n hk (by simpa [NestedKey.depth] using hn)
    intro A E Q q
    unfold ofAClassStatement
    refine wpAny_bind (wpAny_typeOf ⟨o, hg, hc⟩ ?_)
    refine wpAny_bind (m := pure true) (wpAny_pure ?_)
    refine wpAny_bind (wpAny_seqItems hg hd ?_)
    refine wpAny_bind (loop_end _ vs (fun v hv Q' q' => wpAny_bind (sub v hv _ _ _ (wpAny_pure q'))) ?_)
    exact wpAny_pure q
theorem class_keys : ∀ (ks : List NestedKey) (vs : List Value) (n : Nat), NestedAll s.heap ks vs → NestedKey.depthAll ks ≤ n → ∀ v ∈ vs, Says P w s false (ofAClassStatement n v)
  | [], _, n, x, _, v, hv => by cases x; cases hv
  | k :: ks, _, n, x, hn, v, hv => by
    cases x with
    | cons x1 x2 =>
      have hn' : max k.depth (NestedKey.depthAll ks) ≤ n := hn
      rcases List.mem_cons.mp hv with rfl | hv
      · exact class_key k _ n x1 (by omega)
      · exact class_keys ks _ n x2 (by omega) v hv
end
mutual
theorem byval_key : ∀ (k : NestedKey) (v : Value) (n : Nat), NestedIs s.heap k v → k.depth ≤ n → bare k = true → Says P w s true (hashByValue n v)
  | .none, _, n, x, _, _ => by cases x; cases n <;> exact says_pure true
  | .num i, _, n, x, _, _ => by cases x <;> cases n <;> exact says_pure true
  | .text y, _, n, x, _, hb => by cases hb
  | .tup ks, _, 0, _, hn, _ => by simp [NestedKey.depth] at hn
  | .tup ks, _, n + 1, x, hn, hb => by
    cases x with
    | tup hg hc hd hk =>
    rename_i a o vs c
    have sub := byval_keys ks vs.toList n hk (by simpa [NestedKey.depth] using hn) hb
    intro A E Q q
    unfold hashByValue
    refine wpAny_bind (wpAny_specialOf ⟨o, hg, hc⟩ F.slot_tuple_hash.lookup ?_)
    refine wpAny_bind (m := seqItems? (.ref a)) (wpAny_seqItems hg hd ?_)
    refine wpAny_bind (loop_end _ vs (fun v hv Q' q' => wpAny_bind (sub v hv _ _ _ (wpAny_pure q'))) ?_)
    exact wpAny_pure q
theorem byval_keys : ∀ (ks : List NestedKey) (vs : List Value) (n : Nat), NestedAll s.heap ks vs → NestedKey.depthAll ks ≤ n → bareAll ks = true → ∀ v ∈ vs, Says P w s true (hashByValue n v)
  | [], _, n, x, _, _, v, hv => by cases x; cases hv
  | k :: ks, _, n, x, hn, hb, v, hv => by
    cases x with
    | cons x1 x2 =>
      have hn' : max k.depth (NestedKey.depthAll ks) ≤ n := hn
      have hb' := Bool.and_eq_true_iff.mp (show (bare k && bareAll ks) = true from hb)
      rcases List.mem_cons.mp hv with rfl | hv
      · exact byval_key k _ n x1 (by omega) hb'.1
      · exact byval_keys ks _ n x2 (by omega) hb'.2 v hv
end
/-- the key k is the tuple at x -/
def KeyAt (h : Heap) (k : NestedKey) (x : Addr) : Prop := NestedIs h k (.ref x) ∧ k.depth ≤ 8 ∧ bare k = true
theorem KeyAt.kept {h h' : Heap} {k : NestedKey} {x : Addr} (r : KeyAt h k x) (keep : ∀ a o vs n, h.get? a = some o → o.data = .seq vs n → h'.get? a = some o) : KeyAt h' k x := ⟨NestedIs.at keep k _ r.1, r.2⟩
/-- nothing is to be seen of a search among keys -/
theorem unseen {A : Around} {E : Value → Shared → Prop} {k : NestedKey} {x : Addr} (hk : KeyAt s.heap k x) {ys : List Value} (hy : ∀ y ∈ ys, ∃ k' b, y = Value.ref b ∧ KeyAt s.heap k' b) {Q : Bool → Shared → Prop} (q : Q false s) :
    wpAny (model P w) A (searchCouldBeSeen (.ref x) ys) Q E s := by
  unfold searchCouldBeSeen
  refine wpAny_bind (wpAny_forIn_list _ (fun rest r z => r.1 = none ∧ z = s ∧ ∀ y ∈ rest, y ∈ ys) _ ?_ ?_ _ _ ⟨rfl, rfl, fun y z => z⟩)
  · rintro y rest r z ⟨hr, rfl, sub⟩
    obtain ⟨k', b, rfl, hb⟩ := hy y (sub y List.mem_cons_self)
    dsimp only
    by_cases c : (x == b || (carriedByValue (.ref x) && carriedByValue (.ref b))) = true
    · rw [if_pos c]
      exact wpAny_pure ⟨rfl, rfl, fun u hu => sub u (List.mem_cons_of_mem _ hu)⟩
    · rw [if_neg c]
      refine wpAny_bind (quiet_key k _ 8 z hk.1 hk.2.1 _ _ _ ?_)
      refine wpAny_bind (quiet_key k' _ 8 z hb.1 hb.2.1 _ _ _ ?_)
      refine wpAny_bind (class_key k _ 8 hk.1 hk.2.1 _ _ _ ?_)
      refine wpAny_bind (class_key k' _ 8 hb.1 hb.2.1 _ _ _ ?_)
      exact wpAny_pure ⟨rfl, rfl, fun u hu => sub u (List.mem_cons_of_mem _ hu)⟩
  · rintro ⟨r1, r2⟩ z ⟨hr, rfl, _⟩
    obtain rfl : r1 = none := hr
    exact wpAny_pure q
end
end ST
/-! A set of nested tuples, and the search in it. -/
namespace ST
open PySem PySem.Spec PyProof.Rows L2
def row (w : World) (p : NestedKey × Addr) : Int × Value := (p.1.hash w, .ref p.2)
/-- at a: the set with the keys of L, in the order of its table -/
structure SK (w : World) (h : Heap) (a : Addr) (L : List (NestedKey × Addr)) (es : Array (Int × Value)) (ep : Nat) (t : SetTable) : Prop where
  obj : ∃ o, h.get? a = some o ∧ o.ExactSet ∧ o.data = .set es ep t
  rows : es.toList = L.map (row w)
  tab : TB t (L.map fun p => p.1.hash w)
  once : (L.map Prod.fst).Nodup
  keys : ∀ p ∈ L, KeyAt h p.1 p.2
  told : w.params.followText "set-order" = true ∨ t.led = true
  room : L.length * 5 < t.mask * 3
  mask : t.mask = 7 ∨ t.mask = 31 ∨ t.mask = 127 ∨ t.mask = 511
section
variable {P : Program} {w : World} {A : Around} {E : Value → Shared → Prop} {s : Shared} {a : Addr} {L : List (NestedKey × Addr)} {es : Array (Int × Value)} {ep : Nat} {t : SetTable}
theorem SK.count (S : SK w s.heap a L es ep t) : es.size = L.length := by rw [← Array.length_toList, S.rows, List.length_map]
theorem SK.slots (S : SK w s.heap a L es ep t) : t.place.toList.length = L.length := by rw [S.tab.len, List.length_map]
theorem SK.fit (S : SK w s.heap a L es ep t) : t.fits es.size = true := by
  have e1 := S.slots
  have e2 := S.count
  have e3 := S.room
  rw [Array.length_toList] at e1
  unfold SetTable.fits SetTable.fill
  rw [S.tab.clean, Bool.and_eq_true, beq_iff_eq, decide_eq_true_eq]
  exact ⟨by omega, show t.place.size + 0 ≤ t.mask by omega⟩
theorem SK.row_at (S : SK w s.heap a L es ep t) {i : Nat} {p : NestedKey × Addr} (h : L[i]? = some p) : es[i]? = some (p.1.hash w, .ref p.2) := by
  rw [← Array.getElem?_toList, S.rows, List.getElem?_map, h]
  rfl
theorem mask_small (h : t.mask = 7 ∨ t.mask = 31 ∨ t.mask = 127 ∨ t.mask = 511) : t.mask ≤ 511 ∧ 7 ≤ t.mask := by omega
theorem same_time (t : SetTable) : t.sameMemory t.moves t.mask = some true := if_pos (beq_self_eq_true t.moves)
theorem no_dummy (m : Nat) : ∀ (k : Nat) (p : SetTable.Probe), p.dummy = none → (nth m p k).dummy = none
  | 0, _, h => h
  | k + 1, p, h => no_dummy m k (adv m p) (by unfold adv; split <;> exact h)
/-- the search's start -/
abbrev start (w : World) (t : SetTable) (k : NestedKey) : SetTable.Probe := runAt t.mask (SetTable.bits (k.hash w) % (t.mask + 1)) (SetTable.bits (k.hash w))
/-- one lap of the search, from the c-th step on: K is the first free slot of the way -/
theorem lap (S : SK w s.heap a L es ep t) {k : NestedKey} {x : Addr} (hk : KeyAt s.heap k x) (hu : A.units + 8 < cLine) {K : Nat} (hK : K < 10 * SetTable.turns t.mask)
    (out : way t.mask (k.hash w) K ∉ t.place.toList) (ahead : ∀ c, c < K → way t.mask (k.hash w) c ∈ t.place.toList) {Q : SetFound → Shared → Prop}
    (old : k ∈ L.map Prod.fst → Q (.there none) s) (new : k ∉ L.map Prod.fst → Q (.free (way t.mask (k.hash w) K) false) s) :
    ∀ (fuel c : Nat) (stand : Option SetTable.Probe), stand.getD (t.probeStart (k.hash w)) = nth t.mask (start w t k) c → c ≤ K → K < fuel + c →
      (∀ (i : Nat) p c', L[i]? = some p → p.1 = k → c' < c → t.place.toList[i]? ≠ some (way t.mask (k.hash w) c')) →
      wpAny (model P w) A (setSearchFrom a (.ref x) (k.hash w) true fuel stand) Q E s
  | 0, c, _, _, hc, hf, _ => by omega
  | fuel + 1, c, stand, e0, hc, hf, past => by
    obtain ⟨o, ho, hex, hd⟩ := S.obj
    have even : ¬ t.gaveWay = true := by
      unfold SetTable.gaveWay
      rw [S.tab.round.1]
      decide
    have at_ : ∀ q, nth t.mask (nth t.mask (start w t k) c) q = nth t.mask (start w t k) (c + q) := fun q => (nth_add t.mask c _ q).symm
    have way_ : ∀ q, (nth t.mask (nth t.mask (start w t k) c) q).j = way t.mask (k.hash w) (c + q) := fun q => by rw [at_]
    have hash_ : ∀ (i : Nat) (p : NestedKey × Addr), L[i]? = some p → (es[i]?.map (·.1)).getD 0 = p.1.hash w := fun i p hp => by rw [S.row_at hp]; rfl
    have answer := go_spec t S.tab.up S.tab.clean (fun i => (es[i]?.map (·.1)).getD 0) (k.hash w) (10 * SetTable.turns t.mask) (K - c) (nth t.mask (start w t k) c) (no_dummy _ _ _ rfl) (by omega)
      (fun q hq => by rw [way_]; exact ahead _ (by omega)) (by rw [way_, show c + (K - c) = K by omega]; exact out)
    rw [setSearchFrom_succ]
    refine wpAny_bind (wpAny_setState_of ho hd S.fit ?_)
    dsimp only
    rw [if_neg even]
    have probe_ : ∀ {z : SetTable.Met}, SetTable.probe.go t (fun i => (es[i]?.map (·.1)).getD 0) (k.hash w) (10 * SetTable.turns t.mask) (nth t.mask (start w t k) c) = some z → t.probe (fun i => (es[i]?.map (·.1)).getD 0) (k.hash w) (stand.getD (t.probeStart (k.hash w))) = some z := fun e => by
      rw [e0]
      exact e
    rcases answer with ⟨q, i, hq, hi, hh, clear, e⟩ | ⟨clear, e⟩
    · rw [probe_ e]
      rw [way_] at hi
      have hil : i < L.length := by
        rw [← S.slots]
        exact (List.getElem?_eq_some_iff.mp hi).1
      obtain ⟨p, hp⟩ : ∃ p, L[i]? = some p := ⟨_, List.getElem?_eq_getElem hil⟩
      have hmem := List.mem_of_getElem? hp
      have look : wpAny (model P w) A (searchRest a (.ref x) (k.hash w) true fuel es t (nth t.mask (nth t.mask (start w t k) c) q).j i (nth t.mask (nth t.mask (start w t k) c) (q + 1))) Q E s := by
        unfold searchRest
        rw [S.row_at hp]
        refine wpAny_bind (wpAny_holding ((nestedKind P w).eqBool (x := p.1) (y := k) hu ⟨(S.keys p hmem).1, (S.keys p hmem).2.1⟩ ⟨hk.1, hk.2.1⟩ ?_))
        refine wpAny_bind (wpAny_setState_of ho hd S.fit ?_)
        by_cases c1 : p.1 = k
        · rw [decide_eq_true c1]
          exact wpAny_pure (old (List.mem_map.mpr ⟨p, hmem, c1⟩))
        · rw [decide_eq_false c1]
          dsimp only
          rw [if_neg (by decide), same_time]
          dsimp only
          rw [if_pos rfl, way_, slot_live S.tab.up hi]
          dsimp only
          rw [S.row_at hp]
          dsimp only
          refine wpAny_bind (wpAny_isSame_ref_self (wpAny_bind (wpAny_pure ?_)))
          rw [if_pos rfl]
          dsimp only
          rw [if_neg (by decide)]
          refine lap S hk hu hK out ahead old new fuel (c + q + 1) _ (by rw [at_]; rfl) (by omega) (by omega) fun i' p' c' hp' ek hc' same => ?_
          rcases Nat.lt_or_ge c' c with z | z
          · exact past i' p' c' hp' ek z same
          · rcases Nat.lt_or_ge c' (c + q) with y | y
            · refine clear (c' - c) i' (by omega) (by rw [way_, show c + (c' - c) = c' by omega]; exact same) ?_
              exact (hash_ i' p' hp').trans (by rw [ek])
            · obtain rfl : c' = c + q := by omega
              have l1 := slot_live S.tab.up same
              rw [slot_live S.tab.up hi] at l1
              injection l1 with l1
              subst l1
              rw [hp] at hp'
              cases hp'
              exact c1 ek
      show wpAny (model P w) A (if (!t.led) = true then _ else _) Q E s
      by_cases c2 : t.led = true
      · rw [c2]
        exact look
      · rw [if_pos (by simpa using c2)]
        refine wpAny_bind (unseen hk (fun y hy => ?_) look)
        obtain ⟨r, hr, rfl⟩ := List.mem_map.mp hy
        have hr' : r ∈ es.toList := by
          have := (Array.mem_toList_iff.mp hr)
          exact Array.mem_toList_iff.mpr (Array.mem_filter.mp this).1
        rw [S.rows] at hr'
        obtain ⟨p2, hp2, rfl⟩ := List.mem_map.mp hr'
        exact ⟨p2.1, p2.2, rfl, S.keys p2 hp2⟩
    · rw [probe_ e, way_, show c + (K - c) = K by omega]
      refine wpAny_pure (new fun hm => ?_)
      obtain ⟨p, hp, ek⟩ := List.mem_map.mp hm
      obtain ⟨i, hi⟩ := List.mem_iff_getElem?.mp hp
      have hil : i < t.place.toList.length := by
        rw [S.slots]
        exact (List.getElem?_eq_some_iff.mp hi).1
      have hz : (k.hash w, t.place.toList[i]) ∈ (L.map fun p => p.1.hash w).zip t.place.toList := by
        refine List.mem_iff_getElem?.mpr ⟨i, List.getElem?_zip_eq_some.mpr ⟨?_, List.getElem?_eq_getElem hil⟩⟩
        rw [List.getElem?_map, hi, ← ek]
        rfl
      obtain ⟨c', hc', ec⟩ := S.tab.ahead out hz
      have slot_ : t.place.toList[i]? = some (way t.mask (k.hash w) c') := by rw [ec]; exact List.getElem?_eq_getElem hil
      rcases Nat.lt_or_ge c' c with z | z
      · exact past i p c' hi ek z slot_
      · refine clear (c' - c) i (by omega) (by rw [way_, show c + (c' - c) = c' by omega]; exact slot_) ?_
        exact (hash_ i p hi).trans (by rw [ek])
/-- the whole search, as one that adds -/
theorem seek (S : SK w s.heap a L es ep t) {k : NestedKey} {x : Addr} (hk : KeyAt s.heap k x) (hu : A.units + 8 < cLine) {Q : SetFound → Shared → Prop} (old : k ∈ L.map Prod.fst → Q (.there none) s)
    (new : ∀ K, k ∉ L.map Prod.fst → way t.mask (k.hash w) K ∉ t.place.toList → (∀ c, c < K → way t.mask (k.hash w) c ∈ t.place.toList) → Q (.free (way t.mask (k.hash w) K) false) s) :
    wpAny (model P w) A (setSearch a (.ref x) (k.hash w) true) Q E s := by
  have h1 := S.room
  have h2 := S.slots
  have h3 := mask_small S.mask
  obtain ⟨_, K, _, _, hK, out, ahead⟩ := free_on S.tab.round (k.hash w) t.place.toList (by omega)
  have hbig : K < 100000 := by
    unfold SetTable.turns at hK
    omega
  exact lap S hk hu hK out ahead old (fun hn => new K hn out ahead) 100000 0 none rfl (Nat.zero_le K) (by omega) fun _ _ c' _ _ z => absurd z (Nat.not_lt_zero c')
end
end ST
/-! A set of nested tuples: one more key. -/
namespace ST
open PySem PySem.Spec PyProof.Rows L2
theorem fm_same {α β : Type} {f g : α → Option β} : ∀ {l : List α}, (∀ x ∈ l, f x = g x) → l.filterMap f = l.filterMap g
  | [], _ => rfl
  | x :: l, h => by rw [List.filterMap_cons, List.filterMap_cons, h x List.mem_cons_self, fm_same fun y hy => h y (List.mem_cons_of_mem x hy)]
theorem all_rows {α : Type} : ∀ l : List α, (List.range l.length).filterMap (fun i => l[i]?) = l
  | [] => rfl
  | x :: l => by
    rw [List.length_cons, List.range_succ_eq_map, List.filterMap_cons_some (show (x :: l)[0]? = some x from rfl), List.filterMap_map]
    exact congrArg (x :: ·) (all_rows l)
/-- the rows in a new order -/
theorem in_order (w : World) {L : List (NestedKey × Addr)} {es : Array (Int × Value)} {order : Array Nat} (hr : es.toList = L.map (row w)) (hp : order.toList.Perm (List.range L.length)) :
    ∃ L2 : List (NestedKey × Addr), (order.filterMap (es[·]?)).toList = L2.map (row w) ∧ L2.Perm L ∧ (order.toList.map fun i => (es.map (·.1)).getD i 0) = L2.map fun p => p.1.hash w := by
  have at_ : ∀ i, es[i]? = (L[i]?).map (row w) := fun i => by rw [← Array.getElem?_toList, hr, List.getElem?_map]
  refine ⟨order.toList.filterMap fun i => L[i]?, ?_, ?_, ?_⟩
  · rw [Array.toList_filterMap, List.map_filterMap]
    exact fm_same fun i _ => at_ i
  · have := hp.filterMap fun i => L[i]?
    rw [all_rows] at this
    exact this
  · rw [List.map_filterMap, ← List.filterMap_eq_map]
    refine fm_same fun i hi => ?_
    have hl : i < L.length := List.mem_range.mp (hp.mem_iff.mp hi)
    have e : es[i]? = some (row w L[i]) := by rw [at_, List.getElem?_eq_getElem hl]; rfl
    rw [List.getElem?_eq_getElem hl]
    show some ((es.map (·.1)).getD i 0) = some ((L[i]).1.hash w)
    rw [Array.getD_eq_getD_getElem?, Array.getElem?_map, e]
    rfl
theorem others_stay {h h' : Heap} {a : Addr} {o : Obj} {es : Array (Int × Value)} {ep : Nat} {t : SetTable} (ho : h.get? a = some o) (hd : o.data = .set es ep t) (sb : Heap.SameBut a h h') :
    ∀ b u vs n, h.get? b = some u → u.data = .seq vs n → h'.get? b = some u := fun b u vs n hb hs => by
  refine (sb.2 b fun z => ?_).trans hb
  rw [z, ho] at hb
  cases hb
  rw [hd] at hs
  cases hs
/-- the masks that follow one another -/
theorem next_mask {m n : Nat} (hm : m = 7 ∨ m = 31 ∨ m = 127 ∨ m = 511) (h1 : n * 5 < m * 3) (h2 : (n + 1) * 5 ≥ m * 3) (few : n + 1 ≤ 300) :
    ∃ M, SetTable.sizeAbove (SetTable.grown (n + 1)) - 1 = M ∧ SetTable.sizeAbove (SetTable.grown (n + 1)) ≤ 512 ∧ (M = 31 ∨ M = 127 ∨ M = 511) ∧ (n + 1) * 5 < M * 3 := by
  have h : n = 4 ∨ n = 18 ∨ n = 76 := by omega
  rcases h with rfl | rfl | rfl
  · exact ⟨31, by decide +kernel, by decide +kernel, by decide, by decide⟩
  · exact ⟨127, by decide +kernel, by decide +kernel, by decide, by decide⟩
  · exact ⟨511, by decide +kernel, by decide +kernel, by decide, by decide⟩
theorem round_any {m : Nat} (h : m = 31 ∨ m = 127 ∨ m = 511) : Round m := by
  rcases h with rfl | rfl | rfl
  · exact round_small (.inr (.inl rfl))
  · exact round_small (.inr (.inr rfl))
  · exact round_511
section
variable {P : Program} {w : World} {A : Around} {E : Value → Shared → Prop} {s : Shared} {a : Addr} {L : List (NestedKey × Addr)} {es : Array (Int × Value)} {ep : Nat} {t : SetTable}
/-- the table laid anew where it has grown too full -/
theorem grow {o : Obj} (ho : s.heap.get? a = some o) (hex : o.ExactSet) (hd : o.data = .set es ep t) (rows : es.toList = L.map (row w)) (tab : TB t (L.map fun p => p.1.hash w)) (once : (L.map Prod.fst).Nodup)
    (keys : ∀ p ∈ L, KeyAt s.heap p.1 p.2) (told : w.params.followText "set-order" = true ∨ t.led = true) (fill : L.length ≤ t.mask) {wanted M : Nat} (hw : SetTable.sizeAbove wanted - 1 = M)
    (hz : SetTable.sizeAbove wanted ≤ 512) (hM : M = 31 ∨ M = 127 ∨ M = 511) (room : L.length * 5 < M * 3) {Q : Unit → Shared → Prop}
    (q : ∀ h' L' es' ep' t', Heap.SameBut a s.heap h' → SK w h' a L' es' ep' t' → L'.Perm L → Q () { s with heap := h' }) : wpAny (model P w) A (setRelay a wanted) Q E s := by
  have count : es.size = L.length := by rw [← Array.length_toList, rows, List.length_map]
  have slots : t.place.size = L.length := by rw [← Array.length_toList, tab.len, List.length_map]
  have fit : t.fits es.size = true := by
    unfold SetTable.fits SetTable.fill
    rw [tab.clean, Bool.and_eq_true, beq_iff_eq, decide_eq_true_eq]
    exact ⟨by omega, show t.place.size + 0 ≤ t.mask by omega⟩
  obtain ⟨t', order, e, hp, tab', em, el, epl⟩ := anew (t := t) (hs := es.map (·.1)) hw (round_any hM) (by rw [Array.size_map, count]; omega)
  rw [Array.size_map, count] at hp
  obtain ⟨L2, r1, r2, r3⟩ := in_order w rows hp
  rw [r3] at tab'
  have count2 : (order.filterMap (es[·]?)).size = es.size := by rw [← Array.length_toList, r1, List.length_map, r2.length_eq, count]
  rw [setRelay_eq]
  refine wpAny_bind (wpAny_setState_of ho hd fit ?_)
  dsimp only
  rw [if_neg (by rw [sizeLine_eq]; omega), e]
  dsimp only
  refine wpAny_bind ?_
  rw [if_neg (by rw [count2, bne_self_eq_false]; decide)]
  refine wpAny_pure (wpAny_storeSet_of ho hd ?_ (by rw [count2, count, sizeLine_eq]; omega))
  have sb : Heap.SameBut a s.heap (s.heap.update a (Obj.putSet (order.filterMap (es[·]?)) t')) := Heap.SameBut.update ..
  refine q _ L2 _ (ep + 1) t' sb ⟨⟨_, store_at ho hd, ⟨hex.1, hex.2.1, hex.2.2⟩, rfl⟩, r1, tab', (r2.map Prod.fst).nodup_iff.mpr once, fun p hp2 => (keys p (r2.mem_iff.mp hp2)).kept (others_stay ho hd sb), by rw [el]; exact told, by rw [r2.length_eq, em]; exact room, by rw [em]; omega⟩ r2
/-- ONE MORE KEY -/
theorem add (S : SK w s.heap a L es ep t) {k : NestedKey} {x : Addr} (hk : KeyAt s.heap k x) (hu : A.units + 8 < cLine) (few : L.length + 1 ≤ 300) {Q : Bool → Shared → Prop}
    (q : ∀ b h' L' es' ep' t', Heap.SameBut a s.heap h' → SK w h' a L' es' ep' t' → (k ∈ L.map Prod.fst → L' = L) → (k ∉ L.map Prod.fst → L'.Perm ((k, x) :: L)) → Q b { s with heap := h' }) :
    wpAny (model P w) A (setAddHashed a (.ref x) (k.hash w)) Q E s := by
  obtain ⟨o, ho, hex, hd⟩ := S.obj
  have count := S.count
  have room := S.room
  refine wpAny_holding ?_
  show wpAny (model P w) A (setAddHashedIn a (.ref x) (k.hash w) (99999 + 1)) Q E s
  rw [setAddHashedIn_succ]
  refine wpAny_bind (wpAny_setState_of ho hd S.fit ?_)
  dsimp only
  rw [if_neg (show ¬ byScan (.ref x) es = true from by simp [byScan, Value.scannable])]
  refine wpAny_bind (seek S hk hu (fun hm => ?_) fun K hm out ahead => ?_)
  · exact wpAny_pure (q false s.heap L es ep t (Heap.SameBut.refl a s.heap) S (fun _ => rfl) fun z => absurd hm z)
  · dsimp only
    refine wpAny_bind (wpAny_setState_of ho hd S.fit ?_)
    dsimp only
    have tab1 := S.tab.more out ahead
    obtain ⟨p, ep0⟩ : ∃ p, SetTable.below t.place (way t.mask (k.hash w) K) = p := ⟨_, rfl⟩
    obtain ⟨t1, et⟩ : ∃ t1, (t.put (way t.mask (k.hash w) K)).1 = t1 := ⟨_, rfl⟩
    have e2 : t.put (way t.mask (k.hash w) K) = (t1, p) := by rw [← et, ← ep0]; rfl
    have m1 : t1.mask = t.mask := by rw [← et]; rfl
    have l1 : t1.led = t.led := by rw [← et]; rfl
    rw [et, ep0] at tab1
    rw [e2]
    dsimp only
    have pm : (L.take p ++ (k, x) :: L.drop p).Perm ((k, x) :: L) := by
      have z : (L.take p ++ (k, x) :: L.drop p).Perm ((k, x) :: (L.take p ++ L.drop p)) := List.perm_middle
      rwa [List.take_append_drop] at z
    have rows1 : (SetTable.insertAt es p (k.hash w, .ref x)).toList = (L.take p ++ (k, x) :: L.drop p).map (row w) := by
      rw [SetTable.toList_insertAt, S.rows, List.map_append, List.map_cons, List.map_take, List.map_drop]
      rfl
    have hs1 : (L.map fun p => p.1.hash w).take p ++ k.hash w :: (L.map fun p => p.1.hash w).drop p = (L.take p ++ (k, x) :: L.drop p).map fun p => p.1.hash w := by
      rw [List.map_append, List.map_cons, List.map_take, List.map_drop]
    rw [hs1] at tab1
    have once1 : ((L.take p ++ (k, x) :: L.drop p).map Prod.fst).Nodup := (pm.map Prod.fst).nodup_iff.mpr (List.nodup_cons.mpr ⟨hm, S.once⟩)
    have len1 : (L.take p ++ (k, x) :: L.drop p).length = L.length + 1 := pm.length_eq
    have size1 : (SetTable.insertAt es p (k.hash w, .ref x)).size = L.length + 1 := by rw [← Array.length_toList, rows1, List.length_map, len1]
    generalize SetTable.insertAt es p (k.hash w, .ref x) = es1 at rows1 size1 ⊢
    generalize L.take p ++ (k, x) :: L.drop p = L1 at pm rows1 tab1 once1 len1
    have both : ∀ (g : Bool → Sem Bool), wpAny (model P w) A (g true) Q E s → wpAny (model P w) A (if t1.plain = true then hashByValue 8 (.ref x) >>= g else pure true >>= g) Q E s := fun g hg => by
      split
      · exact wpAny_bind (byval_key k _ 8 hk.1 hk.2.1 hk.2.2 _ _ _ hg)
      · exact wpAny_bind (wpAny_pure hg)
    refine both _ ?_
    rw [if_pos rfl]
    refine wpAny_bind (wpAny_storeSet_of ho hd ?_ (by rw [size1, sizeLine_eq]; omega))
    have sb : Heap.SameBut a s.heap (s.heap.update a (Obj.putSet es1 t1)) := Heap.SameBut.update ..
    have ho1 := store_at (es' := es1) (t' := t1) ho hd
    generalize s.heap.update a (Obj.putSet es1 t1) = h1 at sb ho1 ⊢
    have keys1 : ∀ p ∈ L1, KeyAt h1 p.1 p.2 := fun p hp => by
      rcases List.mem_cons.mp (pm.mem_iff.mp hp) with rfl | hp
      · exact hk.kept (others_stay ho hd sb)
      · exact (S.keys p hp).kept (others_stay ho hd sb)
    have told1 : w.params.followText "set-order" = true ∨ t1.led = true := by rw [l1]; exact S.told
    have fill1 : t1.fill = L.length + 1 := by
      unfold SetTable.fill
      rw [tab1.clean, ← Array.length_toList, tab1.len, List.length_map, len1]
      rfl
    have mm := mask_small S.mask
    by_cases c : t1.tooFull = true
    · have full : (L.length + 1) * 5 ≥ t.mask * 3 := by
        have := c
        unfold SetTable.tooFull at this
        rw [decide_eq_true_eq, fill1, m1] at this
        exact this
      obtain ⟨M, n1, n2, n3, n4⟩ := next_mask S.mask room full few
      rw [if_pos (by rw [c]; rfl), count]
      refine wpAny_bind (grow (s := { s with heap := h1 }) ho1 ⟨hex.1, hex.2.1, hex.2.2⟩ rfl rows1 tab1 once1 keys1 told1 (by rw [len1, m1]; omega) n1 n2 n3 (by rw [len1]; exact n4) fun h2 L2 es2 ep2 t2 sb2 S2 pm2 => ?_)
      exact wpAny_pure (q true h2 L2 es2 ep2 t2 (sb.trans sb2) S2 (fun y => absurd y hm) fun _ => pm2.trans pm)
    · rw [if_neg (by simp [c])]
      refine wpAny_pure (q true h1 L1 es1 (ep + 1) t1 sb ⟨⟨_, ho1, ⟨hex.1, hex.2.1, hex.2.2⟩, rfl⟩, rows1, tab1, once1, keys1, told1, ?_, by rw [m1]; exact S.mask⟩ (fun y => absurd y hm) fun _ => pm)
      have := c
      unfold SetTable.tooFull at this
      rw [decide_eq_true_eq, fill1, m1] at this
      rw [len1, m1]
      omega
end
end ST
/-! set(xs), xs a list of nested tuples -/
namespace ST
open PySem PySem.Spec PyProof.Rows L2
/-- the set at S has got the first i of the keys -/
def Sofar (w : World) (ks : List (NestedKey × Addr)) (i : Nat) (S : Addr) (h : Heap) : Prop :=
  ∃ L es ep t, SK w h S L es ep t ∧ (∀ p ∈ L, p ∈ ks) ∧ (∀ p ∈ ks.take i, p.1 ∈ L.map Prod.fst) ∧ L.length ≤ i
def Grows (h h' : Heap) : Prop := ∀ b o, h.get? b = some o → h'.get? b = some o
theorem Grows.key {h h' : Heap} (g : Grows h h') {k : NestedKey} {x : Addr} (r : KeyAt h k x) : KeyAt h' k x := r.kept fun a o _ _ e _ => g a o e
section
variable {P : Program} {w : World} {A : Around} {E : Value → Shared → Prop} {I S : Addr} {fp wr : List Addr} {Pv : Nat → Value → Prop} {St : Nat → Heap → Prop} {R : Result → Shared → Prop} {ks : List (NestedKey × Addr)}
theorem Sofar.at {h0 h h' : Heap} {i : Nat} (x : Sofar w ks i S h) (hk : ∀ p ∈ ks, KeyAt h0 p.1 p.2) (g : Grows h0 h') (stay : ∀ o, h.get? S = some o → h'.get? S = some o) : Sofar w ks i S h' := by
  obtain ⟨L, es, ep, t, X, c1, c2, c3⟩ := x
  obtain ⟨o, ho, r⟩ := X.obj
  exact ⟨L, es, ep, t, ⟨⟨o, stay o ho, r⟩, X.rows, X.tab, X.once, fun p hp => g.key (hk p (c1 p hp)), X.told, X.room, X.mask⟩, c1, c2, c3⟩
/-- the loop -/
theorem fill (W : Walks P w A.in1 I fp wr ks.length Pv St) (out : S ∉ fp) (few : ks.length ≤ 299) (val : ∀ i v, Pv i v → ∃ p, ks[i]? = some p ∧ v = .ref p.2) {h0 : Heap} (hk : ∀ p ∈ ks, KeyAt h0 p.1 p.2)
    (newS : h0.get? S = none) (newI : ∀ b ∈ wr, h0.get? b = none) (hu : A.in1.units + 8 < cLine) :
    ∀ (left i : Nat) (s : Shared), i + left = ks.length → St i s.heap → Grows h0 s.heap → Sofar w ks i S s.heap →
      (∀ h' tk, Grows h0 h' → Sofar w ks ks.length S h' → R (.ok (.ret .none)) { s with heap := h', toks := tk }) → codeAny (model P w) A (.builtin "set.update.loop" ⟨[.ref S, .ref I], []⟩) R s := by
  have outw : S ∉ wr := fun z => out (W.sub S z)
  intro left
  induction left with
  | zero =>
    intro i s hi hst g so fin
    obtain rfl : i = ks.length := hi
    refine codeAny_builtin F.entry_set_update_loop ?_
    rw [Around.under_plainId F.plain_set_update_loop]
    refine wpAny_bind (m := pyNext (.ref I)) (W.done s _ _ hst fun h' tk keep => ?_)
    have g' : Grows h0 h' := fun b o e => keep b o (fun z => by rw [newI b z] at e; cases e) (g b o e)
    exact wpAny_pure (fin h' tk g' (so.at hk g' fun o e => keep S o outw e))
  | succ left more =>
    intro i s hi hst g so fin
    refine codeAny_builtin F.entry_set_update_loop ?_
    rw [Around.under_plainId F.plain_set_update_loop]
    refine wpAny_bind (m := pyNext (.ref I)) (W.item i s _ _ (by omega) hst fun v h1 tk hv st1 keep => ?_)
    obtain ⟨p, hp, rfl⟩ := val i v hv
    have g1 : Grows h0 h1 := fun b o e => keep b o (fun z => by rw [newI b z] at e; cases e) (g b o e)
    obtain ⟨L, es, ep, t, X, c1, c2, c3⟩ := so.at hk g1 fun o e => keep S o outw e
    have kp : KeyAt h1 p.1 p.2 := g1.key (hk p (List.mem_of_getElem? hp))
    refine wpAny_bind (m := holding [Value.ref p.2] (setAdd S (.ref p.2))) (wpAny_holding (wpAny_holding ?_))
    refine wpAny_bind (pyHash_key p.1 _ _ _ _ kp.1 (by have := kp.2.1; omega) ?_)
    refine add (s := { s with heap := h1, toks := tk + p.1.draws }) X kp hu (by omega) fun b h2 L' es' ep' t' sb X' same put => ?_
    have g2 : Grows h0 h2 := fun b o e => (sb.2 b fun z => by rw [z, newS] at e; cases e).trans (g1 b o e)
    have st2 : St (i + 1) h2 := W.frame (i + 1) h1 h2 st1 fun b hb o e => (sb.2 b fun z => out (z ▸ hb)).trans e
    have grown : ks.take (i + 1) = ks.take i ++ [p] := by rw [List.take_succ, hp]; rfl
    have so2 : Sofar w ks (i + 1) S h2 := by
      refine ⟨L', es', ep', t', X', ?_⟩
      rcases Classical.em (p.1 ∈ L.map Prod.fst) with z | z
      · obtain rfl := same z
        refine ⟨c1, fun q hq => ?_, by omega⟩
        rw [grown] at hq
        rcases List.mem_append.mp hq with y | y
        · exact c2 q y
        · rw [List.mem_singleton.mp y]; exact z
      · have pm := put z
        refine ⟨fun q hq => ?_, fun q hq => ?_, by rw [pm.length_eq, List.length_cons]; omega⟩
        · rcases List.mem_cons.mp (pm.mem_iff.mp hq) with y | y
          · rw [y]; exact List.mem_of_getElem? hp
          · exact c1 q y
        · rw [grown] at hq
          rw [(pm.map Prod.fst).mem_iff, List.map_cons]
          rcases List.mem_append.mp hq with y | y
          · exact List.mem_cons_of_mem _ (c2 q y)
          · rw [List.mem_singleton.mp y]; exact List.mem_cons_self
    refine wpAny_pure ⟨plainId_quiet F.plain_set_update_loop _, more (i + 1) { s with heap := h2, toks := tk + p.1.draws } (by omega) st2 g2 so2 fun h' tk' => ?_⟩
    exact fin h' tk'
theorem sofar_new {h : Heap} (ho : h.get? S = some { cls := .type "set", dict := none, data := .set #[] 0 (.fresh 0 0 (!w.params.followText "set-order")) }) : Sofar w ks 0 S h :=
  ⟨[], #[], 0, _, ⟨⟨_, ho, ⟨rfl, rfl, rfl⟩, rfl⟩, rfl, ⟨round_small (.inl rfl), .nil, rfl, rfl, fun _ z => (nomatch z), fun _ z => (nomatch z)⟩, .nil, fun _ z => (nomatch z), by
    show _ ∨ (!w.params.followText "set-order") = true
    cases w.params.followText "set-order"
    · exact .inr rfl
    · exact .inl rfl, (by decide : 0 * 5 < 7 * 3), .inl rfl⟩, fun _ z => (nomatch z), (fun p z => (by rw [List.take_zero] at z; exact (nomatch z))), Nat.le_refl 0⟩
end
end ST
/-! set(xs) as a call -/
namespace ST
open PySem PySem.Spec PyProof.Rows L2
abbrev blank (w : World) : Obj := { cls := .type "set", dict := none, data := .set #[] 0 (.fresh 0 0 (!w.params.followText "set-order")) }
section
variable {P : Program} {w : World} {A : Around} {E : Value → Shared → Prop} {s : Shared} {l : Addr} {items : Array Value} {ks : List (NestedKey × Addr)}
theorem below_none {h : Heap} {b : Addr} (hb : h.objs.size ≤ b) : h.get? b = none := by
  cases e : h.get? b with
  | none => rfl
  | some o => exact absurd (Heap.lt_size e) (Nat.not_lt.mpr hb)
/-- set.__init__ of a new set, over a list -/
theorem init_list (hh : A.handled = none) (hl : s.heap.IsList l items) (hit : items.toList = ks.map fun p => Value.ref p.2) (hk : ∀ p ∈ ks, KeyAt s.heap p.1 p.2) (few : ks.length ≤ 299) (hu : A.units + 20 < cLine) {Q : PySem.Fin → Shared → Prop}
    (q : ∀ h' tk, Grows s.heap h' → Sofar w ks ks.length s.heap.objs.size h' → Q (.done (.ret .none)) { s with heap := h', toks := tk }) :
    wpAny (model P w) A (Builtin.«set.__init__» ⟨[.ref s.heap.objs.size, .ref l], []⟩) Q E { s with heap := s.heap.push (blank w) } := by
  obtain ⟨ol, hol, hcl, nl, hdl⟩ := hl
  obtain ⟨ocls, odict, odata, oslots⟩ := ol
  obtain rfl : ocls = Value.type "list" := hcl
  obtain rfl : odata = .seq items nl := hdl
  have hS : (s.heap.push (blank w)).get? s.heap.objs.size = some (blank w) := Heap.get?_push_size _ rfl
  have hol' : (s.heap.push (blank w)).get? l = some { cls := .type "list", dict := odict, data := .seq items nl, slots := oslots } := Heap.get?_push_of_some _ hol
  have sub1 := F.sub_list_set
  have sub2 := F.sub_list_frozenset
  have nd : (Value.type "list" == Value.type "dict") = false := by decide
  have hl1 : (s.heap.push (blank w)).IsList l items := ⟨_, hol', rfl, nl, rfl⟩
  unfold Builtin.«set.__init__» noKeywords Builtin.Frozenset.updateFrom
  generalize hPI : pyIter = PI
  wp_walk
  subst hPI
  have hlS : l < s.heap.objs.size := Heap.lt_size hol
  have sz : (s.heap.push (blank w)).objs.size = s.heap.objs.size + 1 := Heap.size_push ..
  have nI : l ≠ (s.heap.push (blank w)).objs.size := by rw [sz]; exact Nat.ne_of_lt (Nat.lt_succ_of_lt hlS)
  have lenk : items.size = ks.length := by rw [← Array.length_toList, hit, List.length_map]
  have val : ∀ (i : Nat) (v : Value), items[i]? = some v → ∃ p, ks[i]? = some p ∧ v = .ref p.2 := fun i v hv => by
    rw [← Array.getElem?_toList, hit, List.getElem?_map] at hv
    cases e : ks[i]? with
    | none => rw [e] at hv; cases hv
    | some p => rw [e] at hv; exact ⟨p, rfl, (Option.some.inj hv).symm⟩
  refine wpAny_pyIter_list hl1 (wpAny_bind (wpAny_runValue ?_))
  have W := Walks.list (prog := P) (w := w) (A := A.in1) (by simp [hh]) _ l nI items
  rw [lenk] at W
  have so0 : Sofar w ks 0 s.heap.objs.size ((s.heap.push (blank w)).push { cls := .type "list_iterator", data := .fields #[.ref l, .int 0 0] }) := sofar_new (Heap.get?_push_of_some _ hS)
  refine fill W ?_ few val hk (below_none (Nat.le_refl _)) (fun b hb => below_none ?_) (by show A.units + 1 + 8 < cLine; omega) ks.length 0 { s with heap := (s.heap.push (blank w)).push { cls := .type "list_iterator", data := .fields #[.ref l, .int 0 0] } } (Nat.zero_add _) ⟨⟨_, Heap.get?_push_size _ rfl, rfl, rfl⟩, hl1.push _⟩ (fun b o e => Heap.get?_push_of_some _ (Heap.get?_push_of_some _ e)) so0 fun h' tk g so => ?_
  · rw [sz]
    simp only [List.mem_cons, List.not_mem_nil, or_false, not_or]
    exact ⟨Nat.ne_of_lt (Nat.lt_succ_self _), Nat.ne_of_gt hlS⟩
  · rw [List.mem_singleton.mp hb, sz]
    exact Nat.le_succ _
  · exact wpAny_pure (wpAny_pure (q h' tk g so))
/-- set(xs) -/
theorem set_of (hh : A.handled = none) (hl : s.heap.IsList l items) (hit : items.toList = ks.map fun p => Value.ref p.2) (hk : ∀ p ∈ ks, KeyAt s.heap p.1 p.2) (few : ks.length ≤ 299) (hu : A.units + 40 < cLine) {Q : Value → Shared → Prop}
    (q : ∀ h' tk, Grows s.heap h' → Sofar w ks ks.length s.heap.objs.size h' → Q (.ref s.heap.objs.size) { s with heap := h', toks := tk }) : wpAny (model P w) A (call (.type "set") [.ref l]) Q E s := by
  obtain ⟨c0, tl, hmro⟩ := F.called_set.mro
  have m1 := F.called_set.made
  have m2 := F.called_set.sub
  have m3 := F.called_set.notType
  have m4 := F.called_set.canCreate
  have m5 := F.typeCall_set_1 (.ref l)
  refine wpAny_call (codeAny_of_tree (wpAny_pure ⟨Code.quiet_builtin _ (by decide +kernel), codeAny_builtin F.entry_type_call ?_⟩))
  rw [Around.under_plain (weight_type_call_type "set" [.ref l] []) rfl]
  repeat (any_goals (first | assumption | wp_step))
  refine codeAny_mono (code_set_led1 (P := P) (w := w) (.ref l) (E := E) (Q₁ := fun v z => v = .ref s.heap.objs.size ∧ z = { s with heap := s.heap.push (blank w) }) ⟨rfl, rfl⟩) fun r z hz => ?_
  cases r with
  | error e => exact hz
  | ok f => cases f with
    | ret v =>
      obtain ⟨rfl, rfl⟩ := hz
      have hS : (s.heap.push (blank w)).get? s.heap.objs.size = some (blank w) := Heap.get?_push_size _ rfl
      have ty : Shared.TypeIs { s with heap := s.heap.push (blank w) } (.ref s.heap.objs.size) "set" := ⟨_, hS, rfl⟩
      have m6 := F.called_set.init.lookup
      have m7 := F.called_set.init.bind (.ref s.heap.objs.size)
      repeat (any_goals (first | assumption | wp_step))
      refine codeAny_call_builtin F.called_set.init.plain F.entry_set_init (check_set_init_1 ty ?_)
      refine init_list (s := s) (by simp [hh]) hl hit hk few ?_ fun h' tk g so => ?_
      · show A.units + 1 + 1 + 20 < cLine
        omega
      · exact wpAny_pure (wpAny_pure (q h' tk g so))
    | _ => exact hz.elim
end
end ST
/-! sorted(set(..)) of a list of nested tuples of ints -/
namespace DL
open PySem PySem.Spec PyProof.Rows L2 ST
open PySem.W (AllAlike Sortable dataLe EachIs)
mutual
theorem nest_bare : ∀ d, bare (nest d) = true
  | .int i => rfl
  | .tuple ds => nest_bareA ds
  | .none => rfl
  | .bool _ => rfl
  | .str _ => rfl
  | .list _ => rfl
  | .dict _ => rfl
theorem nest_bareA : ∀ ds, bareAll (nestA ds) = true
  | [] => rfl
  | d :: ds => by
    show (bare (nest d) && bareAll (nestA ds)) = true
    rw [nest_bare d, nest_bareA ds]
    rfl
end
/-- es has what ds has, once each, in order -/
structure SortOf (ds es : List PyData) : Prop where
  mem : ∀ e, e ∈ es ↔ e ∈ ds
  once : es.Nodup
  le : es.Pairwise fun a b => dataLe false id a b = true
theorem once_le {α : Type} : ∀ (l m : List α), l.Nodup → (∀ x ∈ l, x ∈ m) → l.length ≤ m.length
  | [], _, _, _ => Nat.zero_le _
  | x :: l, m, nd, sub => by
    obtain ⟨a, b, rfl⟩ := List.append_of_mem (sub x List.mem_cons_self)
    obtain ⟨n1, n2⟩ := List.nodup_cons.mp nd
    have ih := once_le l (a ++ b) n2 fun y hy => by
      have := sub y (List.mem_cons_of_mem x hy)
      rw [List.mem_append, List.mem_cons] at this
      rcases this with z | rfl | z
      · exact List.mem_append_left b z
      · exact absurd hy n1
      · exact List.mem_append_right a z
    rw [List.length_append] at ih ⊢
    rw [List.length_cons, List.length_cons]
    omega
theorem SortOf.len {ds es : List PyData} (h : SortOf ds es) : es.length ≤ ds.length := once_le es ds h.once fun e he => (h.mem e).mp he
/-- what sorted(set(..)) asks of the list -/
def SetOk (ds : List PyData) : Prop := ds.length ≤ 299 ∧ AllAlike ds ∧ Sortable ds ∧ ∀ d ∈ ds, (∃ r, d = .tuple r) ∧ keyed d = true ∧ d.depth ≤ 8
/-- the keys, with the addresses -/
theorem keys_of {K : PySem.W.Frag} {M : Addr → Prop} {H : Hp} : ∀ {xs : List V} {ds : List PyData} {us : List Value}, DrA K M H xs ds → Vals xs us → (∀ d ∈ ds, ∃ r, d = .tuple r) →
    ∃ ks : List (NestedKey × Addr), us = ks.map (fun p => Value.ref p.2) ∧ (∀ p ∈ ks, ∃ d ∈ ds, p.1 = nest d ∧ Dr K M H (.ref p.2) d) ∧ ∀ d ∈ ds, ∃ p ∈ ks, p.1 = nest d
  | _, _, _, .nil, r, _ => by cases r; exact ⟨[], rfl, fun _ z => (nomatch z), fun _ z => (nomatch z)⟩
  | _, _, _, .cons (d := d) h t, r, tp => by
    cases r with
    | cons r1 r2 =>
      obtain ⟨ks, e, c1, c2⟩ := keys_of t r2 fun d hd => tp d (List.mem_cons_of_mem _ hd)
      obtain ⟨r0, rfl⟩ := tp d List.mem_cons_self
      cases h with
      | @tup a _ _ sq ra =>
      cases r1
      refine ⟨(nest (.tuple r0), a) :: ks, by rw [e]; rfl, fun p hp => ?_, fun d hd => ?_⟩
      · rcases List.mem_cons.mp hp with rfl | hp
        · exact ⟨_, List.mem_cons_self, rfl, .tup sq ra⟩
        · obtain ⟨d, hd, z⟩ := c1 p hp
          exact ⟨d, List.mem_cons_of_mem _ hd, z⟩
      · rcases List.mem_cons.mp hd with rfl | hd
        · exact ⟨_, List.mem_cons_self, rfl⟩
        · obtain ⟨p, hp, z⟩ := c2 d hd
          exact ⟨p, List.mem_cons_of_mem _ hp, z⟩
/-- a list that is another one's map, but for the order -/
theorem map_back {α β : Type} (f : α → β) : ∀ (vs : List β) (l : List α), vs.Perm (l.map f) → ∃ m : List α, m.Perm l ∧ vs = m.map f
  | [], l, h => by
    have := h.length_eq
    rw [List.length_map] at this
    obtain rfl := List.length_eq_zero_iff.mp this.symm
    exact ⟨[], .nil, rfl⟩
  | v :: vs, l, h => by
    obtain ⟨x, hx, rfl⟩ := List.mem_map.mp (h.mem_iff.mp List.mem_cons_self)
    obtain ⟨a, b, rfl⟩ := List.append_of_mem hx
    have h2 : (f x :: vs).Perm (f x :: (a ++ b).map f) := h.trans (by rw [List.map_append, List.map_cons, List.map_append]; exact List.perm_middle)
    obtain ⟨m, pm, e⟩ := map_back f vs (a ++ b) h2.cons_inv
    exact ⟨x :: m, (pm.cons x).trans List.perm_middle.symm, by rw [e]; rfl⟩
section
variable {X : Cx} {pins : List (Addr × Obj)} {σ : L2.St} {H : Hp} {s s' : Shared}
theorem moved_on (I : Inv X pins σ H s) (g : Grows s.heap s'.heap) (hg : s'.gens = s.gens) (ho : s'.os = s.os) : Inv X pins σ H s' := by
  have J : Inv X pins σ H { s with heap := s'.heap, gens := s'.gens, drawn := s'.drawn, toks := s'.toks } := I.call (ch := []) (Un.kept g) (I.hok.kept g) (by rw [hg]; exact I.bare) (fun _ z => nomatch z)
  obtain ⟨a1, a2, a3, a4, a5⟩ := s'
  obtain rfl : a5 = s.os := ho
  exact J
/-- sorted(a set of keys) -/
theorem sort_set {M : Addr → Prop} {ds : List PyData} {ks L : List (NestedKey × Addr)} {a : Addr} {es : Array (Int × Value)} {ep : Nat} {t : SetTable} (I : Inv X pins σ H s) (S : SK X.w s.heap a L es ep t) (hc : X.calm = true) (hu : X.A.units + 64 < cLine)
    (ok : SetOk ds) (c1 : ∀ p ∈ ks, ∃ d ∈ ds, p.1 = nest d ∧ Dr X.K M H (.ref p.2) d) (c2 : ∀ d ∈ ds, ∃ p ∈ ks, p.1 = nest d) (sub : ∀ p ∈ L, p ∈ ks) (all : ∀ p ∈ ks, p.1 ∈ L.map Prod.fst) {Q : V → Hp → Prop}
    (q : ∀ b ys zs, SortOf ds zs → DrA X.K M H ys zs → H b = none → Q (.ref b) (upd H b (.lst ys))) :
    wpAny (model X.prog X.w) X.A (call (.builtin "sorted") [.ref a]) (fun v s' => ∃ x H', Inv X pins σ H' s' ∧ RelV x v ∧ Q x H') X.xe s := by
  obtain ⟨o, ho, hex, hd⟩ := S.obj
  obtain ⟨k1, k2, k3, k4⟩ := ok
  have back : ∀ p ∈ L, ∃ d ∈ ds, p.1 = nest d ∧ p.1.data = d ∧ Dr X.K M H (.ref p.2) d := fun p hp => by
    obtain ⟨d, hd, e, r⟩ := c1 p (sub p hp)
    exact ⟨d, hd, e, by rw [e]; exact nest_data d (k4 d hd).2.1, r⟩
  have small : L.length ≤ 299 := by
    have : (L.map Prod.fst).length ≤ (ds.map nest).length := once_le _ _ S.once fun k hk => by
      obtain ⟨p, hp, rfl⟩ := List.mem_map.mp hk
      obtain ⟨d, hd, e, _⟩ := back p hp
      exact List.mem_map.mpr ⟨d, hd, e.symm⟩
    rw [List.length_map, List.length_map] at this
    omega
  refine Calls.call_function_entry kind_sorted plain_sorted entry_sorted (args_sorted1 _) ?_
  unfold Builtin.«sorted»
  refine wpAny_bind (m := checkCount "sorted" 1 1 _) (wpAny_pure ?_)
  refine wpAny_bind (collect_set (A := X.A.in1) (I.ok.hd hc) ⟨o, ho, hex.1, hd⟩ S.fit (by rw [S.count]; unfold scanBound; omega) S.tab.up S.told fun s1 vs g1 z1 gens1 os1 pm => ?_)
  have J := moved_on I g1 gens1 os1
  rw [S.rows, List.map_map] at pm
  obtain ⟨L1, pL, rfl⟩ := map_back (fun p : NestedKey × Addr => Value.ref p.2) vs L pm
  have len1 : L1.length = L.length := pL.length_eq
  refine wpAny_bind (wpAny_newList ?_ (by rw [List.length_map, len1, sizeLine_eq]; omega))
  have list_ : (s1.heap.push { cls := .type "list", data := .seq (L1.map fun p => Value.ref p.2).toArray }).get? s1.heap.objs.size = some (seqObj "list" (L1.map fun p => Value.ref p.2).toArray 0) := Heap.get?_push_size _ rfl
  have each : EachIs (fun v (p : NestedKey × Addr) => v = Value.ref p.2 ∧ p ∈ L1) (L1.map fun p => Value.ref p.2) L1 := by
    have key : ∀ l : List (NestedKey × Addr), (∀ p ∈ l, p ∈ L1) → EachIs (fun v (p : NestedKey × Addr) => v = Value.ref p.2 ∧ p ∈ L1) (l.map fun p => Value.ref p.2) l := fun l => by
      induction l with
      | nil => intro _; exact .nil
      | cons p l ih => intro h; exact .cons ⟨rfl, h p List.mem_cons_self⟩ (ih fun q hq => h q (List.mem_cons_of_mem _ hq))
    exact key L1 fun p hp => hp
  have encs : ∀ d ∈ L1.map (fun p => p.1.data), d ∈ ds := fun d hd => by
    obtain ⟨p, hp, rfl⟩ := List.mem_map.mp hd
    obtain ⟨d, hd, _, e, _⟩ := back p (pL.mem_iff.mp hp)
    rw [e]
    exact hd
  refine wpAny_bind (wpAny_holding (PySem.W.list_sort_data (enc := fun p : NestedKey × Addr => p.1.data) list_ each (each.mono fun v p hv => ?_) (fun d hd d' hd' => k2 d (encs d hd) d' (encs d' hd')) ?_ (by rw [len1, sizeLine_eq]; omega) (fun p hp => ?_) fun out ho2 eo => ?_))
  · obtain ⟨rfl, hp⟩ := hv
    obtain ⟨d, hd, _, e, r⟩ := back p (pL.mem_iff.mp hp)
    obtain ⟨as, r1, r2⟩ := Dr.reads J r (show RelV (.ref p.2) (Value.ref p.2) from rfl)
    refine ⟨as, ?_, fun z => ?_⟩
    · show Reads _ _ p.1.data as
      rw [e]
      exact PyProof.Rows.Reads.keeps (fun b o => Heap.get?_push_of_some _) r1
    · obtain ⟨o2, z2, _⟩ := r2 _ z
      exact absurd (J.hok.lt z2) (Nat.lt_irrefl _)
  · rcases k3 with z | z
    · exact .inl fun d hd => z d (encs d hd)
    · exact .inr fun d hd => z d (encs d hd)
  · obtain ⟨d, hd, _, e, _⟩ := back p (pL.mem_iff.mp hp)
    have := (k4 d hd).2.2
    show X.A.in1.units + 1 + p.1.data.depth < cLine
    rw [e]
    show X.A.units + 1 + 1 + d.depth < cLine
    omega
  · obtain ⟨Z, eZ⟩ : ∃ Z, L1.mergeSort (dataLe false fun p : NestedKey × Addr => p.1.data) = Z := ⟨_, rfl⟩
    rw [eZ] at eo
    have pZ : Z.Perm L := by
      rw [← eZ]
      exact (List.mergeSort_perm ..).trans pL
    have rowsZ : ∀ (out : List Value) (Z : List (NestedKey × Addr)), EachIs (fun v (p : NestedKey × Addr) => v = Value.ref p.2 ∧ p ∈ L1) out Z → Vals (Z.map fun p => V.ref p.2) out := fun out Z z => by
      induction z with
      | nil => exact .nil
      | cons h _ ih =>
        obtain ⟨rfl, _⟩ := h
        exact .cons rfl ih
    have dataZ : ∀ l : List (NestedKey × Addr), (∀ p ∈ l, p ∈ L) → DrA X.K M H (l.map fun p => V.ref p.2) (l.map fun p => p.1.data) := fun l => by
      induction l with
      | nil => intro _; exact .nil
      | cons p l ih =>
        intro h
        obtain ⟨d, _, _, e, r⟩ := back p (h p List.mem_cons_self)
        exact .cons (show Dr X.K M H (.ref p.2) p.1.data by rw [e]; exact r) (ih fun q hq => h q (List.mem_cons_of_mem _ hq))
    have up : SortOf ds (Z.map fun p => p.1.data) := by
      refine ⟨fun e => ?_, ?_, ?_⟩
      · rw [(pZ.map _).mem_iff]
        constructor
        · intro z
          obtain ⟨p, hp, rfl⟩ := List.mem_map.mp z
          obtain ⟨d, hd, _, e, _⟩ := back p hp
          rw [e]
          exact hd
        · intro z
          obtain ⟨p, hp, e1⟩ := c2 e z
          obtain ⟨p', hp', e2⟩ := List.mem_map.mp (all p hp)
          exact List.mem_map.mpr ⟨p', hp', by rw [e2, e1]; exact nest_data e (k4 e z).2.1⟩
      · refine (pZ.map _).nodup_iff.mpr ?_
        have z := S.once
        rw [List.nodup_iff_pairwise_ne, List.pairwise_map] at z ⊢
        refine z.imp_of_mem fun {p r} hp hr ne e => ?_
        obtain ⟨d, _, e1, e2, _⟩ := back p hp
        obtain ⟨d', _, e3, e4, _⟩ := back r hr
        rw [e2, e4] at e
        exact ne (by rw [e1, e3, e])
      · rw [← eZ, List.pairwise_map]
        exact PySem.W.sort_pairwise (PySem.W.sortLe_total _ false _) L1
    obtain ⟨c, hcell⟩ := sortedHeap_at (vs := L1.map fun p => Value.ref p.2) (out := out.toArray) list_
    have fresh : H s1.heap.objs.size = none := J.hok.fresh (Nat.le_refl _)
    have lenZ : Z.length = L.length := pZ.length_eq
    refine wpAny_pure ⟨_, rfl, .ref s1.heap.objs.size, _, J.laid (t' := s1.toks) (o := .lst (Z.map fun p => V.ref p.2)) (fun b u e => ?_) (Nat.le_refl _) ⟨by rw [List.length_map, sizeLine_eq]; omega, out, c, rowsZ out Z eo, hcell⟩, rfl, q _ _ _ up (dataZ Z fun p hp => pZ.mem_iff.mp hp) fresh⟩
    have hlt := Heap.lt_size e
    rw [sortedHeap_old (Nat.ne_of_lt hlt) (by rw [size_push']; exact Nat.lt_succ_of_lt hlt)]
    exact Heap.get?_push_of_some _ e
end
section
variable {X : Cx} {K : PySem.W.Frag} {e : Expr} {te : TE} {we : WE} {p p2 q pos : Pos}
/-- sorted(set(xs)), xs a list of nested tuples -/
def tSortSetN (K : PySem.W.Frag) (te : TE) : TE := fun σ H Q => te σ H fun x H1 => ∃ (M : Addr → Prop) (l : Addr) (xs : List V) (ds : List PyData), x = .ref l ∧ SqL K H1 l xs ∧ DrA K M H1 xs ds ∧ SetOk ds ∧
  ∀ b ys zs, SortOf ds zs → DrA K M H1 ys zs → H1 b = none → Q (.ref b) (upd H1 b (.lst ys))
theorem pe_sortSetN (hc : X.calm = true) (hu : X.A.units + 64 < cLine) (hg : Gl X "sorted") (hm : X.mg "sorted" = none) (hg2 : Gl X "set") (hm2 : X.mg "set" = none) (ha : PE X e te)
    (na : starEach [e] X.env = (false, eval e X.env) :: starEach [] X.env := by rfl) : PE X (.Call (.Name "sorted" p) [.Call (.Name "set" p2) [e] [] q] [] pos) (tSortSetN X.K te) := by
  constructor
  intro pins s σ H Q I h
  refine Call_ (ld_blt (u := .builtin "sorted") I hg hm (by decide +kernel) ?_)
  refine PyProof.Rows.callWith_builtin1 (PyProof.Rows.args_cons ?_ rfl) rfl rfl
  refine Call_ (ld_blt I hg2 hm2 boot_set ?_)
  refine PyProof.Rows.callWith_type1 (PyProof.Rows.args_cons ?_ na) na rfl
  refine thn (ha.run pins s σ H _ I h) ?_
  rintro v s1 ⟨x, H1, I1, r1, M, l, xs, ds, rfl, hq, rd, ok, q1⟩
  cases r1
  apply PyProof.Rows.args_nil
  obtain ⟨its, rv, pl, hz⟩ := I1.list hq
  obtain ⟨ks, e1, c1, c2⟩ := keys_of rd rv fun d hd => (ok.2.2.2 d hd).1
  have lenk : ks.length ≤ 299 := by
    have h1 := rd.length
    have h2 := rv.length
    have h3 := congrArg List.length e1
    rw [List.length_map] at h3
    have := ok.1
    omega
  have keys : ∀ p ∈ ks, KeyAt s1.heap p.1 p.2 := fun p hp => by
    obtain ⟨d, hd, e2, r⟩ := c1 p hp
    have z := ok.2.2.2 d hd
    rw [e2]
    exact ⟨Dr.nests I1 r z.2.1 (show RelV (.ref p.2) (Value.ref p.2) from rfl), Nat.le_trans (nest_depth d) z.2.2, nest_bare d⟩
  refine set_of (ks := ks) (I1.ok.hd hc) pl.isList (by simpa using e1) keys lenk (by omega) fun h' tk g so => ?_
  apply PyProof.Rows.args_nil
  obtain ⟨L, es, ep, t, S, s1', s2', _⟩ := so
  have I2 : Inv X pins σ H1 { s1 with heap := h', toks := tk } := I1.kept (t' := tk) g
  exact sort_set (s := { s1 with heap := h', toks := tk }) I2 S hc hu ok c1 c2 s1' (fun p hp => s2' p (by rw [List.take_length]; exact hp)) fun b ys zs up dr fr => q1 b ys zs up dr fr
def wSortSetN (we : WE) : WE := fun δ Φ => we δ fun d => ∃ ds, d = .list ds ∧ SetOk ds ∧ ∀ zs, SortOf ds zs → Φ (.list zs)
theorem de_sortSetN {K' : PySem.W.Frag} (hc : X.calm = true) (hu : X.A.units + 64 < cLine) (hm : X.mg "sorted" = none) (hm2 : X.mg "set" = none) (ha : DE X e te we) (hg : Gl X "sorted" := by rfl) (hg2 : Gl X "set" := by rfl)
    (na : starEach [e] X.env = (false, eval e X.env) :: starEach [] X.env := by rfl) (hK : X.K = K' := by rfl) : DE X (.Call (.Name "sorted" p) [.Call (.Name "set" p2) [e] [] q] [] pos) (tSortSetN K' te) (wSortSetN we) := by
  subst hK
  refine ⟨pe_sortSetN hc hu hg hm hg2 hm2 ha.pe na, ⟨fun C M H σ δ Q Φ I hw qq => ha.dt.run C M H σ δ _ _ I hw fun v d H1 x1 p1 r1 w1 => ?_⟩⟩
  have I1 := I.next x1 p1
  obtain ⟨ds, rfl, ok, hf⟩ := w1
  cases r1 with
  | lst nm ha ra =>
  refine ⟨_, _, _, ds, rfl, SqL.of ha, ra, ok, fun b ys zs up dr fr => ?_⟩
  have nM : ¬ _ := I1.stillFresh (Same.refl H1) fr
  exact qq _ _ _ (x1.trans (ExtP.new fr)) (p1.new fr) (.lst nM upd_same (dr.stays (Stays.of_same (same_new fr)))) (hf zs up)
end
end DL
/-! a, found = e, [..]: the second one a list of one's own -/
namespace DL
open PySem PySem.Spec PyProof.Rows L2
section
variable {X : Cx} {K : PySem.W.Frag} {te tf : TE} {we : WE} {wf : WF} {pos : Pos}
def wParO (i j : Nat) (we : WE) (wf : WF) : WS := fun Φ δ => we δ fun d => wf δ fun ds => j < δ.length ∧ Φ.nx ((δ.set i (.d d)).set j (.own ds))
theorem dst_parO {i j : Nat} (he : DEt K te we) (hf : DFt K tf wf) : DSt K (tPar i j (tCons te (tCons tf tNil))) (wParO i j we wf) := by
  refine ⟨fun C M H σ δ D Φ I hw c => he.run C M H σ δ _ _ I hw fun v d H1 x1 p1 r1 w1 => ?_⟩
  have I1 := I.next x1 p1
  refine hf.run C M H1 σ δ _ _ I1 w1 fun a xs ds H2 x2 ha ha' p2 r2 w2 => ?_
  have I2 := I1.put' (i := i) (v := v) (sv := .d d) ⟨_, rfl, r1⟩ fun _ z => nomatch z
  refine ⟨_, _, rfl, c.nx _ _ _ H2 (I2.putOwn (i := j) (by rw [List.length_set, ← I.len]; exact w2.1) ha x2 ha' p2 r2) ?_ w2.2⟩
  exact (Tr.of_ext I.pen x1).trans fun v d r => r.map (With.fresh ha) (x2.stays I1.pen)
theorem ds_parO {i j : Nat} {x y : Str} {a b : Expr} {px py pt : Pos} {kt k2 pt2} (hc : X.calm = true) (hN : X.N.Nodup) (hi : X.N[i]? = some x) (hj : X.N[j]? = some y) (hij : i ≠ j)
    (hx : X.env.scope.names.lookup x = some .local) (hy : X.env.scope.names.lookup y = some .local) (ha : DE X a te we) (hb : DF X b tf wf)
    (hw : swappedStores [.Tuple [.Name x px, .Name y py] kt pt] (.Tuple [a, b] k2 pt2) X.env = pure (some [x, y]))
    (hs : swapsWithSole [.Tuple [.Name x px, .Name y py] kt pt] (.Tuple [a, b] k2 pt2) pos.line X.env = pure false := by rfl)
    (s1 : starEach [a, b] X.env = (false, eval a X.env) :: starEach [b] X.env := by rfl) (s2 : starEach [b] X.env = (false, eval b X.env) :: starEach [] X.env := by rfl) :
    DS X (.Assign [.Tuple [.Name x px, .Name y py] kt pt] (.Tuple [a, b] k2 pt2) pos) (tPar i j (tCons te (tCons tf tNil))) (wParO i j we wf) :=
  ⟨ps_par hc hN hi hj hij hx hy (pa_cons ha.pe (pa_cons hb.pe pa_nil s2) s1) hw hs, dst_parO ha.dt hb.dt⟩
end
end DL
/-! orders of numbers; sizes of data -/
namespace DL
open PySem PySem.Spec PyProof.Rows L2
/-- the rank of each: how many different numbers are less -/
def rankOf (ns : List Int) (x : Int) : Nat := (sortD (ns.filter fun y => decide (y < x))).length
def ranks (ns : List Int) : List Int := ns.map fun x => ((rankOf ns x : Nat) : Int)
theorem ranks_len (ns : List Int) : (ranks ns).length = ns.length := by unfold ranks; rw [List.length_map]
theorem filter_up {l : List Int} (h : l.Pairwise (· < ·)) (p : Int → Bool) : (l.filter p).Pairwise (· < ·) := h.sublist List.filter_sublist
/-- the rank is the place in the rising list -/
theorem rankOf_filter (ns : List Int) (x : Int) : rankOf ns x = ((sortD ns).filter fun y => decide (y < x)).length := by
  unfold rankOf
  congr 1
  refine up_unique (sortD_up _) (filter_up (sortD_up ns) _) fun k => ?_
  rw [mem_sortD, List.mem_filter, List.mem_filter, mem_sortD]
theorem place_filter : ∀ {l : List Int} {i : Nat} {x : Int}, l.Pairwise (· < ·) → l[i]? = some x → (l.filter fun y => decide (y < x)).length = i
  | [], i, x, _, h => by simp at h
  | a :: l, 0, x, hp, h => by
    have e : a = x := by simpa using h
    subst e
    have hp' := List.pairwise_cons.mp hp
    rw [List.filter_cons_of_neg (by simp)]
    have : l.filter (fun y => decide (y < a)) = [] := by
      rw [List.filter_eq_nil_iff]
      intro y hy
      have := hp'.1 y hy
      simp
      omega
    rw [this]; rfl
  | a :: l, i + 1, x, hp, h => by
    have hp' := List.pairwise_cons.mp hp
    have hx : x ∈ l := List.mem_of_getElem? (by simpa using h)
    have := hp'.1 x hx
    rw [List.filter_cons_of_pos (by simpa using this), List.length_cons, place_filter hp'.2 (by simpa using h)]
theorem rankOf_place {ns : List Int} {i : Nat} {x : Int} (h : (sortD ns)[i]? = some x) : rankOf ns x = i := by
  rw [rankOf_filter]
  exact place_filter (sortD_up ns) h
theorem rankOf_lt (ns : List Int) {x : Int} (h : x ∈ ns) : rankOf ns x < ns.length := by
  obtain ⟨i, hi⟩ := List.mem_iff_getElem?.mp (mem_sortD.mpr h)
  rw [rankOf_place hi]
  have := (List.getElem?_eq_some_iff.mp hi).1
  exact Nat.lt_of_lt_of_le this (sortD_len ns)
theorem ranks_bound {ns : List Int} {r : Int} (h : r ∈ ranks ns) : 0 ≤ r ∧ r < ns.length := by
  unfold ranks at h
  obtain ⟨x, hx, rfl⟩ := List.mem_map.mp h
  have := rankOf_lt ns hx
  omega
/-- all ints -/
def intsOf : List PyData → Option (List Int)
  | [] => some []
  | .int i :: r => (intsOf r).map (i :: ·)
  | _ :: _ => none
theorem intsOf_map (ns : List Int) : intsOf (ns.map .int) = some ns := by
  induction ns with
  | nil => rfl
  | cons n r ih => show (intsOf (r.map .int)).map (n :: ·) = _; rw [ih]; rfl
theorem intsOf_eq : ∀ {ds : List PyData} {ns : List Int}, intsOf ds = some ns → ds = ns.map .int
  | [], _, h => by cases h; rfl
  | .int i :: r, _, h => by
    obtain ⟨m, h1, h2⟩ := Option.map_eq_some_iff.mp (show (intsOf r).map (i :: ·) = some _ from h)
    subst h2
    rw [intsOf_eq h1]; rfl
  | .none :: _, _, h => by cases h
  | .bool _ :: _, _, h => by cases h
  | .str _ :: _, _, h => by cases h
  | .list _ :: _, _, h => by cases h
  | .tuple _ :: _, _, h => by cases h
  | .dict _ :: _, _, h => by cases h
theorem intsOf_all : ∀ ds : List PyData, (intsOf ds).isSome = ds.all numB
  | [] => rfl
  | .int i :: r => by
    show ((intsOf r).map (i :: ·)).isSome = _
    rw [Option.isSome_map, intsOf_all r]
    rfl
  | .none :: _ => rfl
  | .bool _ :: _ => rfl
  | .str _ :: _ => rfl
  | .list _ :: _ => rfl
  | .tuple _ :: _ => rfl
  | .dict _ :: _ => rfl
/-- is it an order of so many numbers -/
def isOrd (v : PyData) (n : Int) : Bool := match v with
  | .tuple ds => decide ((ds.length : Int) = n) && (match intsOf ds with
    | some ns => decide (ranks ns = ns)
    | none => false)
  | _ => false
/-- the rows of k numbers below s, in their order -/
def rowsD (s : Nat) : Nat → List (List Int)
  | 0 => [[]]
  | k + 1 => (rowsD s k).flatMap fun r => (List.range s).map fun j => r ++ [((j : Nat) : Int)]
theorem rowsD_mem {s k : Nat} {r : List Int} (h : r ∈ rowsD s k) : r.length = k := by
  induction k generalizing r with
  | zero => simp [rowsD] at h; subst h; rfl
  | succ k ih =>
    unfold rowsD at h
    obtain ⟨q, hq, hr⟩ := List.mem_flatMap.mp h
    obtain ⟨j, _, rfl⟩ := List.mem_map.mp hr
    rw [List.length_append, ih hq]
    rfl
theorem rowsD_len (s k : Nat) : (rowsD s k).length = s ^ k := by
  induction k with
  | zero => rfl
  | succ k ih =>
    unfold rowsD
    rw [List.length_flatMap]
    simp only [List.length_map, List.length_range]
    rw [List.map_const', List.sum_replicate_nat, ih, Nat.pow_succ]
/-- the orders of two nodes of m numbers -/
def ordersD (m : Nat) : List (List Int) := (rowsD (2 * m) (2 * m)).filter fun r => decide (ranks r = r)
def tupI (ns : List Int) : PyData := .tuple (ns.map .int)

/-! ### how long a text repr gives -/
mutual
def cost : PyData → Nat
  | .none => 4
  | .bool _ => 5
  | .int _ => 2000
  | .str x => 10 * x.length + 2
  | .list xs => costAll xs + 3
  | .tuple xs => costAll xs + 3
  | .dict kvs => costKv kvs + 3
def costAll : List PyData → Nat
  | [] => 0
  | x :: r => cost x + 2 + costAll r
def costKv : List (PyData × PyData) → Nat
  | [] => 0
  | (k, v) :: r => cost k + cost v + 4 + costKv r
end
mutual
/-- the ints lie below 2 ^ b, the texts are texts -/
def fine (b : Nat) : PyData → Bool
  | .none | .bool _ => true
  | .int i => decide (i.natAbs < 2 ^ b)
  | .str x => x.cps.toList.all fun c => decide (c < 16 ^ 8)
  | .list xs | .tuple xs => fineAll b xs
  | .dict kvs => fineKv b kvs
def fineAll (b : Nat) : List PyData → Bool
  | [] => true
  | x :: r => fine b x && fineAll b r
def fineKv (b : Nat) : List (PyData × PyData) → Bool
  | [] => true
  | (k, v) :: r => fine b k && fine b v && fineKv b r
end
end DL
/-! sizes of data under changes -/
namespace DL
open PySem PySem.Spec PyProof.Rows L2
theorem costAll_app : ∀ xs ys : List PyData, costAll (xs ++ ys) = costAll xs + costAll ys
  | [], ys => by simp [costAll]
  | x :: xs, ys => by rw [List.cons_append, costAll, costAll, costAll_app xs ys]; omega
theorem costAll_sub {l m : List PyData} (h : l.Sublist m) : costAll l ≤ costAll m := by
  induction h with
  | slnil => exact Nat.le_refl _
  | cons a _ ih => rw [costAll]; omega
  | cons_cons a _ ih => rw [costAll, costAll]; omega
theorem costAll_rev (xs : List PyData) : costAll xs.reverse = costAll xs := by
  induction xs with
  | nil => rfl
  | cons x r ih => rw [List.reverse_cons, costAll_app, ih, costAll, costAll, costAll]; omega
theorem costAll_len : ∀ xs : List PyData, xs.length ≤ costAll xs
  | [] => Nat.zero_le _
  | x :: r => by have := costAll_len r; rw [List.length_cons, costAll]; omega
theorem costAll_mem {x : PyData} {xs : List PyData} (h : x ∈ xs) : cost x + 2 ≤ costAll xs := by
  have := costAll_sub (List.singleton_sublist.mpr h)
  rw [costAll, costAll] at this
  omega
theorem fineAll_iff {b : Nat} : ∀ {xs : List PyData}, fineAll b xs = true ↔ ∀ x ∈ xs, fine b x = true
  | [] => by simp [fineAll]
  | x :: r => by rw [fineAll, Bool.and_eq_true, fineAll_iff (xs := r), List.forall_mem_cons]
theorem depthAll_le {k : Nat} : ∀ {xs : List PyData}, PyData.depthAll xs ≤ k ↔ ∀ x ∈ xs, x.depth ≤ k
  | [] => by simp [PyData.depthAll]
  | x :: r => by rw [PyData.depthAll, Nat.max_le, depthAll_le (xs := r), List.forall_mem_cons]
mutual
theorem fine_mono {a b : Nat} (h : a ≤ b) : ∀ {d : PyData}, fine a d = true → fine b d = true
  | .none, _ => rfl
  | .bool _, _ => rfl
  | .int i, e => by
    unfold fine at e ⊢
    rw [decide_eq_true_eq] at e ⊢
    exact Nat.lt_of_lt_of_le e (Nat.pow_le_pow_right (by decide) h)
  | .str x, e => by unfold fine at e ⊢; exact e
  | .list xs, e => by unfold fine at e ⊢; exact fineAll_mono h e
  | .tuple xs, e => by unfold fine at e ⊢; exact fineAll_mono h e
  | .dict kvs, e => by unfold fine at e ⊢; exact fineKv_mono h e
theorem fineAll_mono {a b : Nat} (h : a ≤ b) : ∀ {xs : List PyData}, fineAll a xs = true → fineAll b xs = true
  | [], _ => rfl
  | x :: r, e => by
    rw [fineAll, Bool.and_eq_true] at e ⊢
    exact ⟨fine_mono h e.1, fineAll_mono h e.2⟩
theorem fineKv_mono {a b : Nat} (h : a ≤ b) : ∀ {kvs : List (PyData × PyData)}, fineKv a kvs = true → fineKv b kvs = true
  | [], _ => rfl
  | (k, v) :: r, e => by
    rw [fineKv, Bool.and_eq_true, Bool.and_eq_true] at e ⊢
    exact ⟨⟨fine_mono h e.1.1, fine_mono h e.1.2⟩, fineKv_mono h e.2⟩
end
theorem cutD_sub {α : Type} (xs : List α) (lo hi : Option Int) : (cutD xs lo hi).Sublist xs := by
  unfold cutD
  exact (List.take_sublist _ _).trans (List.drop_sublist _ _)
mutual
/-- the longest row in it -/
def wid : PyData → Nat
  | .none | .bool _ | .int _ | .str _ => 0
  | .list xs | .tuple xs => max xs.length (widAll xs)
  | .dict kvs => max kvs.length (widKv kvs)
def widAll : List PyData → Nat
  | [] => 0
  | x :: r => max (wid x) (widAll r)
def widKv : List (PyData × PyData) → Nat
  | [] => 0
  | (k, v) :: r => max (max (wid k) (wid v)) (widKv r)
end
theorem widAll_le {k : Nat} : ∀ {xs : List PyData}, widAll xs ≤ k ↔ ∀ x ∈ xs, wid x ≤ k
  | [] => by simp [widAll]
  | x :: r => by rw [widAll, Nat.max_le, widAll_le (xs := r), List.forall_mem_cons]
theorem wid_tuple (xs : List PyData) : wid (.tuple xs) = max xs.length (widAll xs) := by rw [wid]
theorem wid_list (xs : List PyData) : wid (.list xs) = max xs.length (widAll xs) := by rw [wid]
theorem wid_len {xs : List PyData} {k : Nat} (h : wid (.tuple xs) ≤ k) : xs.length ≤ k := by
  rw [wid_tuple] at h
  exact Nat.le_trans (Nat.le_max_left _ _) h
theorem wid_ints (ns : List Int) : wid (.tuple (ns.map .int)) = ns.length := by
  rw [wid_tuple, List.length_map]
  have : widAll (ns.map .int) ≤ 0 := widAll_le.mpr fun x hx => by
    obtain ⟨n, _, rfl⟩ := List.mem_map.mp hx
    exact Nat.le_refl _
  omega
/-- how large a changed value may be -/
def Bent (b : Nat) (v d : PyData) : Prop := fine (b + 1) d = true ∧ cost d ≤ 2 * cost v + 12000 ∧ d.depth ≤ v.depth + 4 ∧ wid d ≤ wid v + 5
theorem Bent.tuple {b : Nat} {vs ds : List PyData} (hf : ∀ x ∈ ds, fine (b + 1) x = true) (hc : costAll ds ≤ 2 * costAll vs + 12000) (hd : ∀ x ∈ ds, x.depth ≤ PyData.depthAll vs + 4) (hl : ds.length ≤ vs.length + 5) (hw : ∀ x ∈ ds, wid x ≤ widAll vs + 5) : Bent b (.tuple vs) (.tuple ds) := by
  refine ⟨by unfold fine; exact fineAll_iff.mpr hf, by unfold cost; omega, ?_, ?_⟩
  · have := depthAll_le.mpr hd
    simp only [PyData.depth]
    omega
  · have := widAll_le.mpr hw
    rw [wid_tuple, wid_tuple]
    omega
theorem Bent.list {b : Nat} {vs : List PyData} (hf : ∀ x ∈ vs, fine b x = true) : Bent b (.tuple vs) (.list vs) := by
  refine ⟨by unfold fine; exact fineAll_iff.mpr fun x hx => fine_mono (Nat.le_succ b) (hf x hx), by unfold cost; omega, ?_, by rw [wid_tuple, wid_list]; omega⟩
  simp only [PyData.depth]
  omega
theorem Bent.int {b : Nat} {i j : Int} (hf : fine b (.int i) = true) (h : j.natAbs ≤ i.natAbs + 1) : Bent b (.int i) (.int j) := by
  refine ⟨?_, by unfold cost; omega, Nat.le_add_right _ _, Nat.le_add_right _ _⟩
  unfold fine at hf ⊢
  rw [decide_eq_true_eq] at hf ⊢
  rw [Nat.pow_succ]
  omega
end DL
/-! texts of data are not long -/
namespace DL
open PySem PySem.Spec PyProof.Rows L2
theorem log_small {n b : Nat} (h : n < 2 ^ b) (hb : b ≤ 1900) : n.log2 < 1920 := by
  by_cases z : n = 0
  · subst z; decide
  · have := (Nat.log2_lt z).mpr h
    omega
mutual
theorem shown_len {b : Nat} (hb : b ≤ 1900) : ∀ d : PyData, fine b d = true → d.shown.length ≤ cost d
  | .none, _ => by
    have e : (PyData.shown .none).length = 4 := rfl
    unfold cost; omega
  | .bool k, _ => by
    have e : (PyData.shown (.bool k)).length ≤ 5 := by cases k <;> decide
    unfold cost; omega
  | .int i, h => by
    unfold fine at h
    have := int_text_len_1921 (log_small (of_decide_eq_true h) hb)
    have e : PyData.shown (.int i) = Str.ofString (toString i) := rfl
    rw [e]
    unfold cost; omega
  | .str x, h => by
    unfold fine at h
    have hx : ∀ c ∈ x.cps.toList, c < 16 ^ 8 := by simpa only [List.all_eq_true, decide_eq_true_eq] using h
    have e := StrLaws.reprText_len x hx
    simp only [PyData.shown]
    unfold cost; omega
  | .list xs, h => by
    unfold fine at h
    have h1 := shownAll_len hb xs h
    have h2 := listText_len_le (PyData.shownAll xs)
    have h3 := PyData.shownAll_length xs
    simp only [PyData.shown]
    unfold cost; omega
  | .tuple xs, h => by
    unfold fine at h
    have h1 := shownAll_len hb xs h
    have h2 := tupleText_len_le (PyData.shownAll xs)
    have h3 := PyData.shownAll_length xs
    simp only [PyData.shown]
    unfold cost; omega
  | .dict kvs, h => by
    unfold fine at h
    have h1 := shownKv_len hb kvs h
    have h2 := dictText_len_le (PyData.shownKv kvs)
    have h3 := PyData.shownKv_length kvs
    simp only [PyData.shown]
    unfold cost; omega
theorem shownAll_len {b : Nat} (hb : b ≤ 1900) : ∀ xs : List PyData, fineAll b xs = true → ((PyData.shownAll xs).map (·.length)).sum + 2 * xs.length ≤ costAll xs
  | [], _ => by simp only [PyData.shownAll, List.map_nil, List.sum_nil, List.length_nil]; omega
  | x :: xs, h => by
    rw [fineAll, Bool.and_eq_true] at h
    have h1 := shown_len hb x h.1
    have h2 := shownAll_len hb xs h.2
    simp only [PyData.shownAll, List.map_cons, List.sum_cons, List.length_cons]
    rw [costAll]
    omega
theorem shownKv_len {b : Nat} (hb : b ≤ 1900) : ∀ kvs : List (PyData × PyData), fineKv b kvs = true → ((PyData.shownKv kvs).map (·.length)).sum + 2 * kvs.length ≤ costKv kvs
  | [], _ => by simp only [PyData.shownKv, List.map_nil, List.sum_nil, List.length_nil]; omega
  | (k, v) :: r, h => by
    rw [fineKv, Bool.and_eq_true, Bool.and_eq_true] at h
    have h1 := shown_len hb k h.1.1
    have h2 := shown_len hb v h.1.2
    have h3 := shownKv_len hb r h.2
    have e2 : (k.shown ++ ": " ++ v.shown).length = k.shown.length + 2 + v.shown.length := by
      rw [strLen_append, strLen_append]; rfl
    simp only [PyData.shownKv, List.map_cons, List.sum_cons, List.length_cons]
    rw [costKv]
    omega
end
mutual
theorem fine_showable {b : Nat} (hb : b ≤ 1900) : ∀ d : PyData, fine b d = true → d.showable = true
  | .none, _ => rfl
  | .bool _, _ => rfl
  | .int i, h => by
    unfold fine at h
    simp only [PyData.showable]
    exact decide_eq_true (log_small (of_decide_eq_true h) hb)
  | .str x, _ => rfl
  | .list xs, h => by unfold fine at h; simp only [PyData.showable]; exact fineAll_showable hb xs h
  | .tuple xs, h => by unfold fine at h; simp only [PyData.showable]; exact fineAll_showable hb xs h
  | .dict kvs, h => by unfold fine at h; simp only [PyData.showable]; exact fineKv_showable hb kvs h
theorem fineAll_showable {b : Nat} (hb : b ≤ 1900) : ∀ xs : List PyData, fineAll b xs = true → PyData.showableAll xs = true
  | [], _ => rfl
  | x :: xs, h => by
    rw [fineAll, Bool.and_eq_true] at h
    simp only [PyData.showableAll, Bool.and_eq_true]
    exact ⟨fine_showable hb x h.1, fineAll_showable hb xs h.2⟩
theorem fineKv_showable {b : Nat} (hb : b ≤ 1900) : ∀ kvs : List (PyData × PyData), fineKv b kvs = true → PyData.showableKv kvs = true
  | [], _ => rfl
  | (k, v) :: r, h => by
    rw [fineKv, Bool.and_eq_true, Bool.and_eq_true] at h
    simp only [PyData.showableKv, Bool.and_eq_true]
    exact ⟨⟨fine_showable hb k h.1.1, fine_showable hb v h.1.2⟩, fineKv_showable hb r h.2⟩
end
/-- a text of it can be made -/
theorem repr_ok {b : Nat} {d : PyData} (hb : b ≤ 1900) (hf : fine b d = true) (hd : d.depth ≤ 60) (hc : cost d ≤ 10000000) : ReprOk d :=
  ⟨fine_showable hb d hf, hd, Nat.le_trans (shown_len hb d hf) (by rw [sizeLine_eq]; omega)⟩
end DL
namespace DL
open PySem PySem.Spec PyProof.Rows L2
theorem ints_fine {b : Nat} {ns : List Int} (h : ∀ n ∈ ns, n.natAbs < 2 ^ b) : fineAll b (ns.map .int) = true := by
  refine fineAll_iff.mpr fun x hx => ?_
  obtain ⟨n, hn, rfl⟩ := List.mem_map.mp hx
  unfold fine
  exact decide_eq_true (h n hn)
theorem ints_cost : ∀ ns : List Int, costAll (ns.map .int) = 2002 * ns.length
  | [] => rfl
  | n :: r => by
    rw [List.map_cons, costAll, ints_cost r, List.length_cons]
    unfold cost
    omega
/-- what the law hands on: its text can be made, a tuple is short -/
def Good (v : PyData) : Prop := ReprOk v ∧ ∀ ds, v = .tuple ds → ds.length < 64
theorem good_of {b : Nat} {d : PyData} (hb : b ≤ 1900) (hf : fine b d = true) (hd : d.depth ≤ 60) (hc : cost d ≤ 10000000) (hl : ∀ ds, d = .tuple ds → ds.length < 64) : Good d := ⟨repr_ok hb hf hd hc, hl⟩
theorem good_tuple {b : Nat} {ds : List PyData} (hb : b ≤ 1900) (hf : ∀ x ∈ ds, fine b x = true) (hd : ∀ x ∈ ds, x.depth ≤ 50) (hc : costAll ds ≤ 1000000) (hl : ds.length < 64) : Good (.tuple ds) := by
  refine good_of hb (by unfold fine; exact fineAll_iff.mpr hf) ?_ (by unfold cost; omega) fun es e => by cases e; exact hl
  have := depthAll_le.mpr hd
  simp only [PyData.depth]
  omega
theorem good_list {b : Nat} {ds : List PyData} (hb : b ≤ 1900) (hf : ∀ x ∈ ds, fine b x = true) (hd : ∀ x ∈ ds, x.depth ≤ 50) (hc : costAll ds ≤ 1000000) : Good (.list ds) := by
  refine good_of hb (by unfold fine; exact fineAll_iff.mpr hf) ?_ (by unfold cost; omega) fun es e => by cases e
  have := depthAll_le.mpr hd
  simp only [PyData.depth]
  omega
theorem good_bent {b : Nat} {v d : PyData} (hb : b ≤ 1800) (h : Bent b v d) (hc : cost v ≤ 1000000) (hd : v.depth ≤ 50) (hl : wid v ≤ 40) : Good d := by
  obtain ⟨h1, h2, h3, h4⟩ := h
  refine good_of (b := b + 1) (by omega) h1 (by omega) (by omega) fun ds e => ?_
  subst e
  have := wid_len h4
  omega
theorem repr_bool (k : Bool) : ReprOk (.bool k) := repr_ok (b := 0) (by decide) rfl (Nat.zero_le _) (by unfold cost; decide)
theorem part_fine {b : Nat} {ns : List Int} (h : ∀ n ∈ ns, n.natAbs < 2 ^ b) : ∀ x ∈ ns.map PyData.int, fine b x = true := fineAll_iff.mp (ints_fine h)
theorem part_flat {ns : List Int} : ∀ x ∈ ns.map PyData.int, x.depth ≤ 0 := fun x hx => by
  obtain ⟨n, _, rfl⟩ := List.mem_map.mp hx
  exact Nat.le_refl _
end DL
namespace DL
open PySem PySem.Spec PyProof.Rows L2
theorem all_small : (fine 100 (.list [.tuple ((ordersD 1).map tupI), .tuple ((ordersD 2).map tupI)]) && decide (cost (.list [.tuple ((ordersD 1).map tupI), .tuple ((ordersD 2).map tupI)]) ≤ 10000000)) = true := by decide +kernel
end DL
namespace DL
open PySem PySem.Spec PyProof.Rows L2
theorem all_flat : (PyData.list [.tuple ((ordersD 1).map tupI), .tuple ((ordersD 2).map tupI)]).depth ≤ 60 := by
  have h : ∀ m, ∀ x ∈ (ordersD m).map tupI, x.depth ≤ 1 := fun m x hx => by
    obtain ⟨r, _, rfl⟩ := List.mem_map.mp hx
    unfold tupI
    simp only [PyData.depth, depth_ints]
    decide
  have h1 := depthAll_le.mpr (h 1)
  have h2 := depthAll_le.mpr (h 2)
  simp only [PyData.depth, PyData.depthAll]
  omega
theorem all_repr : ReprOk (.list [.tuple ((ordersD 1).map tupI), .tuple ((ordersD 2).map tupI)]) := by
  have h := all_small
  rw [Bool.and_eq_true, decide_eq_true_eq] at h
  exact repr_ok (b := 100) (by decide) h.1 all_flat h.2
end DL
namespace DL
open PySem PySem.Spec PyProof.Rows L2
theorem fEq_same (x : Str) {Φ : PyData → Prop} (h : Φ (.bool true)) : fEq (.str x) (.str x) Φ := by
  rw [fEq_str, decide_eq_true (show x = x from rfl)]
  exact h
theorem fNe_same (x : Str) {Φ : PyData → Prop} (h : Φ (.bool false)) : fNe (.str x) (.str x) Φ := by
  rw [fNe_str, decide_eq_true (show x = x from rfl)]
  exact h
end DL
/-! looks and orders as data -/
namespace DL
open PySem PySem.Spec PyProof.Rows L2
open PySem.W (AllAlike Sortable alike alikeAll)
/-- ranks of 2 * m numbers -/
def Row (m : Nat) (row : List Int) : Prop := row.length = 2 * m ∧ ∀ r ∈ row, 0 ≤ r ∧ r < 4
def lk (s t : Int) (row : List Int) : PyData := .tuple [.int s, .int t, tupI row]
def IsOr (m : Nat) (d : PyData) : Prop := ∃ row, d = tupI row ∧ Row m row
def IsLk (m : Nat) (d : PyData) : Prop := ∃ s t row, d = lk s t row ∧ (s = 0 ∨ s = 1) ∧ (t = 0 ∨ t = 1) ∧ Row m row
theorem row_ranks {m : Nat} (hm : m = 1 ∨ m = 2) {ns : List Int} (h : ns.length = 2 * m) : Row m (ranks ns) := by
  refine ⟨by rw [ranks_len, h], fun r hr => ?_⟩
  have := ranks_bound hr
  rcases hm with rfl | rfl <;> omega
theorem lk_lay (s t : Int) (row : List Int) : (lk s t row).canLay0 = true := by
  unfold lk tupI
  simp only [PyData.canLay0, PyData.canLayAll0, canLay_ints, Bool.and_self]
theorem or_lay (row : List Int) : (tupI row).canLay0 = true := by
  unfold tupI
  simp only [PyData.canLay0, canLay_ints]
theorem or_depth (row : List Int) : (tupI row).depth = 1 := by
  unfold tupI
  simp only [PyData.depth, depth_ints]
theorem lk_depth (s t : Int) (row : List Int) : (lk s t row).depth = 2 := by
  unfold lk
  simp only [PyData.depth, PyData.depthAll, or_depth]
  rfl
theorem layAll {ds : List PyData} (h : ∀ d ∈ ds, d.canLay0 = true) : PyData.canLayAll0 ds = true := by
  induction ds with
  | nil => rfl
  | cons d ds ih =>
    show (d.canLay0 && PyData.canLayAll0 ds) = true
    rw [h d List.mem_cons_self, ih fun e he => h e (List.mem_cons_of_mem d he)]
    rfl
theorem IsOr.lay {m : Nat} {d : PyData} (h : IsOr m d) : d.canLay0 = true := by
  obtain ⟨row, rfl, _⟩ := h
  exact or_lay row
theorem keyed_ints : ∀ ns : List Int, keyedA (ns.map .int) = true
  | [] => rfl
  | n :: ns => by
    show (keyed (.int n) && keyedA (ns.map .int)) = true
    rw [keyed_ints ns]
    rfl
theorem ints_alike (a b : List Int) : alikeAll (a.map .int) (b.map .int) = true := PySem.W.alike_ints a b
theorem or_set {m : Nat} (hm : 0 < m) {ds : List PyData} (h : ∀ d ∈ ds, IsOr m d) (hl : ds.length ≤ 299) : SetOk ds := by
  refine ⟨hl, fun d hd d' hd' => ?_, .inl fun d hd => ?_, fun d hd => ?_⟩
  · obtain ⟨r, rfl, _⟩ := h d hd
    obtain ⟨r', rfl, _⟩ := h d' hd'
    exact ints_alike r r'
  · obtain ⟨r, rfl, hr, _⟩ := h d hd
    cases r with
    | nil =>
      rw [List.length_nil] at hr
      omega
    | cons x r => exact ⟨.int x, r.map .int, rfl⟩
  · obtain ⟨r, rfl, _⟩ := h d hd
    exact ⟨⟨_, rfl⟩, keyed_ints r, by rw [or_depth]; decide⟩
theorem lk_set {m : Nat} {ds : List PyData} (h : ∀ d ∈ ds, IsLk m d) (hl : ds.length ≤ 299) : SetOk ds := by
  refine ⟨hl, fun d hd d' hd' => ?_, .inl fun d hd => ?_, fun d hd => ?_⟩
  · obtain ⟨s, t, r, rfl, _⟩ := h d hd
    obtain ⟨s', t', r', rfl, _⟩ := h d' hd'
    show (true && (true && (alikeAll (r.map .int) (r'.map .int) && true))) = true
    rw [ints_alike]
    rfl
  · obtain ⟨s, t, r, rfl, _⟩ := h d hd
    exact ⟨_, _, rfl⟩
  · obtain ⟨s, t, r, rfl, _⟩ := h d hd
    refine ⟨⟨_, rfl⟩, ?_, by rw [lk_depth]; decide⟩
    show (true && (true && (keyedA (r.map .int) && true))) = true
    rw [keyed_ints]
    rfl
theorem row_fine {m : Nat} {r : List Int} (h : Row m r) : fineAll 140 (r.map .int) = true := ints_fine fun n hn => by
  have := h.2 n hn
  omega
theorem IsOr.fine {m : Nat} {d : PyData} (h : IsOr m d) : fine 140 d = true := by
  obtain ⟨r, rfl, hr⟩ := h
  unfold tupI DL.fine
  exact row_fine hr
theorem IsLk.fine {m : Nat} {d : PyData} (h : IsLk m d) : fine 140 d = true := by
  obtain ⟨s, t, r, rfl, hs, ht, hr⟩ := h
  unfold lk tupI DL.fine fineAll fineAll fineAll fineAll DL.fine
  rw [row_fine hr, Bool.and_true, Bool.and_true]
  rcases hs with rfl | rfl <;> rcases ht with rfl | rfl <;> decide
theorem IsOr.cost {m : Nat} (hm : m ≤ 2) {d : PyData} (h : IsOr m d) : cost d ≤ 8020 := by
  obtain ⟨r, rfl, hr, _⟩ := h
  have := ints_cost r
  unfold tupI DL.cost
  omega
theorem IsLk.cost {m : Nat} (hm : m ≤ 2) {d : PyData} (h : IsLk m d) : cost d ≤ 12050 := by
  obtain ⟨s, t, r, rfl, _, _, hr⟩ := h
  have h1 := IsOr.cost hm ⟨r, rfl, hr⟩
  unfold lk DL.cost costAll costAll costAll costAll
  unfold DL.cost
  show 2000 + 2 + (2000 + 2 + (DL.cost (tupI r) + 2 + 0)) + 3 ≤ 12050
  omega
theorem cost_sum {k : Nat} : ∀ {ds : List PyData}, (∀ d ∈ ds, cost d ≤ k) → costAll ds ≤ ds.length * (k + 2)
  | [], _ => Nat.zero_le _
  | d :: ds, h => by
    have h1 := h d List.mem_cons_self
    have h2 := cost_sum fun e he => h e (List.mem_cons_of_mem d he)
    rw [costAll, List.length_cons, Nat.succ_mul]
    omega
theorem IsLk.depth {m : Nat} {d : PyData} (h : IsLk m d) : d.depth ≤ 2 := by
  obtain ⟨s, t, r, rfl, _⟩ := h
  rw [lk_depth]
  exact Nat.le_refl 2
theorem IsOr.depth {m : Nat} {d : PyData} (h : IsOr m d) : d.depth ≤ 2 := by
  obtain ⟨r, rfl, _⟩ := h
  rw [or_depth]
  decide
/-- a text of a tuple of such can be made -/
theorem repr_tup {ds : List PyData} (hf : ∀ d ∈ ds, fine 140 d = true) (hd : ∀ d ∈ ds, d.depth ≤ 2) (hc : ∀ d ∈ ds, cost d ≤ 12050) (hl : ds.length ≤ 400) : ReprOk (.tuple ds) := by
  refine repr_ok (b := 140) (by decide) (by unfold fine; exact fineAll_iff.mpr hf) ?_ ?_
  · have := depthAll_le.mpr hd
    simp only [PyData.depth]
    omega
  · have := cost_sum hc
    unfold cost
    have h2 : ds.length * (12050 + 2) ≤ 400 * 12052 := Nat.mul_le_mul_right _ hl
    omega
theorem repr_two {as bs : List PyData} (ha : ∀ d ∈ as, fine 140 d = true) (hb : ∀ d ∈ bs, fine 140 d = true) (da : ∀ d ∈ as, d.depth ≤ 2) (db : ∀ d ∈ bs, d.depth ≤ 2) (ca : ∀ d ∈ as, cost d ≤ 12050) (cb : ∀ d ∈ bs, cost d ≤ 12050)
    (hl : as.length + bs.length ≤ 600) : ReprOk (.tuple [.tuple as, .tuple bs]) := by
  refine repr_ok (b := 140) (by decide) ?_ ?_ ?_
  · unfold fine fineAll fineAll fineAll fine
    rw [fineAll_iff.mpr ha, fineAll_iff.mpr hb]
    rfl
  · have h1 := depthAll_le.mpr da
    have h2 := depthAll_le.mpr db
    simp only [PyData.depth, PyData.depthAll]
    omega
  · have h1 := cost_sum ca
    have h2 := cost_sum cb
    have h3 : as.length * (12050 + 2) + bs.length * (12050 + 2) ≤ 600 * 12052 := by
      rw [← Nat.add_mul]
      exact Nat.mul_le_mul_right _ hl
    unfold cost costAll costAll costAll cost
    omega
theorem orders_rows {m : Nat} (hm : m = 1 ∨ m = 2) : (∀ r ∈ ordersD m, Row m r) ∧ (ordersD m).length ≤ 75 := by
  constructor
  · intro r hr
    unfold ordersD at hr
    obtain ⟨h1, h2⟩ := List.mem_filter.mp hr
    have e : ranks r = r := of_decide_eq_true h2
    rw [← e]
    exact row_ranks hm (rowsD_mem h1)
  · rcases hm with rfl | rfl <;> decide +kernel
end DL
/-! Comprehensions of any number of clauses, whatever they gather: one clause's loop; the block's frame. -/
namespace CB
open PySem PySem.Spec PyProof.Rows L2
/-- a clause's turn: next, the target, the tests, then its body -/
def lapOf (e : Expr) (k : Nat) (tg : Expr) (ifs : List Expr) (ip : Pos) (it acc : Value) (env : Env) (body : Sem PySem.Fin → Sem PySem.Fin) : Sem PySem.Fin := do
  standAt ip
  match ← pyNext it with
  | none => pure (.done .next)
  | some v =>
    letOwnedTupleGo tg it v
    assign tg env v
    let mut ok := true
    for c in ifs do
      if ok then ok ← isTrue c env (eval c env)
    if ok then body (again (.compLoop e k it acc env)) else again (.compLoop e k it acc env)
section
variable {prog : Program} {w : World} {A : Around} {R : Result → Shared → Prop} {s : Shared} {e tg : Expr} {k : Nat} {ifs : List Expr} {ip : Pos} {it acc : Value} {env : Env} {body : Sem PySem.Fin → Sem PySem.Fin}
abbrev Nay : Value → Shared → Prop := fun _ _ => False
/-- what the machine does of such a block: told of each kind of comprehension by rfl -/
structure Plain (e : Expr) : Prop where
  den : ∀ (prog : Program) (w : World) (k : Nat) (it acc : Value) (env : Env), (model prog w).den (.compLoop e k it acc env) = (compTurn e k it acc env).onRaise fun x => do noteFrame x env; theTreesLotGoes x
  same : ∀ (A : Around) (k : Nat) (it acc : Value) (env : Env), A.under (.compLoop e k it acc env) = A
/-- the loop of a clause -/
theorem loop (pl : Plain e) (hl : compTurn e k it acc env = lapOf e k tg ifs ip it acc env body) (I : Nat → Shared → Prop)
    (lap : ∀ n s, I n s → wpAny (model prog w) A (pyNext it) (fun r s1 => match r with
      | none => R (.ok .next) s1
      | some v => wpAny (model prog w) A (letOwnedTupleGo tg it v) (fun _ s2 => wpAny (model prog w) A (assign tg env v) (fun _ s3 =>
          wpAny (model prog w) A (forIn ifs true fun c r => if r = true then do let ok ← isTrue c env (eval c env); pure (ForInStep.yield ok) else pure (ForInStep.yield r)) (fun ok s4 =>
            if ok = true then wpAny (model prog w) A (body (again (.compLoop e k it acc env))) (fun f s5 => f = .again (.compLoop e k it acc env) ∧ ∃ m, m < n ∧ I m s5) Nay s4 else ∃ m, m < n ∧ I m s4) Nay s3) Nay s2) Nay s1) Nay s)
    (n : Nat) (h : I n s) : codeAny (model prog w) A (.compLoop e k it acc env) R s := by
  refine codeAny_loop (by rfl) I (fun n s hI => ?_) n h
  rw [pl.den, pl.same, hl]
  refine wpAny_noted (wpAny_bind (wpAny_standAt (wpAny_bind (thnF (lap n s hI) fun r s1 h1 => ?_))))
  cases r with
  | none => exact wpAny_pure h1
  | some v =>
    refine wpAny_bind (thnF h1 fun _ s2 h2 => wpAny_bind (thnF h2 fun _ s3 h3 => wpAny_bind (thnF h3 fun ok s4 h4 => ?_)))
    cases ok with
    | false => exact wpAny_pure ⟨rfl, h4⟩
    | true => exact thnF h4 fun f s5 h5 => by obtain ⟨rfl, h5⟩ := h5; exact ⟨rfl, h5⟩
end
/-- σ' knows what σ knows -/
def Knows (σ σ' : L2.St) : Prop := σ.length = σ'.length ∧ ∀ (j : Nat) v, σ[j]? = some (some v) → σ'[j]? = some (some v)
theorem Knows.refl (σ : L2.St) : Knows σ σ := ⟨rfl, fun _ _ h => h⟩
theorem Knows.trans {a b c : L2.St} (h : Knows a b) (h' : Knows b c) : Knows a c := ⟨h.1.trans h'.1, fun j v e => h'.2 j v (h.2 j v e)⟩
theorem knows_wipe (σ : L2.St) (vs : List Nat) : Knows (wipe σ vs) σ := ⟨wipe_length σ vs, fun _ _ e => (wipe_some e).1⟩
/-- wiping fewer slots forgets less -/
theorem knows_sub {σ σ' : L2.St} {vs us : List Nat} (h : wipe σ' vs = wipe σ vs) (sub : ∀ i ∈ us, i ∈ vs) : Knows (wipe σ vs) (wipe σ' us) := by
  refine ⟨by rw [← h, wipe_length, wipe_length], fun j v e => ?_⟩
  rw [← h] at e
  obtain ⟨e1, e2⟩ := wipe_some e
  rw [wipe_out fun z => e2 (sub j z)]
  exact e1
section
variable {B : Cx}
/-- what a clause's walk asks of the data: at each turn it stops, or a way on, Nx, is reached by the target, the tests and the body -/
def ClauseQ (J : It) (g : TG) (tt : TT) (σ0 : L2.St) (vs : List Nat) (Body : L2.St → Hp → (Hp → Prop) → Prop) (Stop : Hp → Prop) (H : Hp) : Prop :=
  ∃ W : Nat → Nat → Hp → Prop, (∃ m, W 0 m H) ∧ ∀ i m H, W i m H → (J.stop i H ∧ Stop H) ∨ (J.go i H ∧ ∃ Nx : Hp → Prop, (∀ H', Nx H' → ∃ m', m' < m ∧ W (i + 1) m' H') ∧
    ∀ x H', J.yld i H x H' → g x σ0 H' fun σ2 H2 => wipe σ2 vs = σ0 ∧ tt σ2 H2 fun b H3 => if b = true then Body σ2 H3 Nx else Nx H3)
/-- ONE CLAUSE -/
theorem clause (hc : B.calm = true) {e tg : Expr} {k : Nat} {ifs : List Expr} {ip : Pos} {acc : Value} {body : Sem PySem.Fin → Sem PySem.Fin} {it : Addr} {fp : List Addr} {tn : Nat → Heap → Prop} {J : It} {g : TG} {tt : TT}
    (pe : Plain e) (hl : compTurn e k (.ref it) acc B.env = lapOf e k tg ifs ip (.ref it) acc B.env body) (hx : B.xe = Nay) (pg : PG B tg g) (pt : PTs B ifs tt) (T : Turn B.prog B.w B.K tg J fp it tn)
    {pins : List (Addr × Obj)} {σ0 : L2.St} {vs : List Nat} {Body : L2.St → Hp → (Hp → Prop) → Prop} {Stop : Hp → Prop} {H : Hp} {s : Shared}
    (fixed : ∀ H', (∀ b ∈ fp, H' b = none) → ∀ b ∈ fp, FpOk B pins H' b)
    (hb : ∀ pl σ2 H3 s3 Nx, wipe σ2 vs = σ0 → Inv B (pins ++ pl) σ2 H3 s3 → Body σ2 H3 Nx → ∀ c : Code, wpAny (model B.prog B.w) B.A (body (again c)) (fun f s' => f = .again c ∧ ∃ σ3 H', Inv B (pins ++ pl) σ3 H' s' ∧ Knows σ0 σ3 ∧ Nx H') Nay s3)
    (I : Inv B pins σ0 H s) (st : tn 0 s.heap) (hn : ∀ b ∈ fp, H b = none) (q : ClauseQ J g tt σ0 vs Body Stop H) :
    codeAny (model B.prog B.w) B.A (.compLoop e k (.ref it) acc B.env) (fun r s' => r = .ok .next ∧ ∃ H', Inv B pins σ0 H' s' ∧ (∀ b ∈ fp, H' b = none) ∧ Stop H') s := by
  obtain ⟨W, ⟨m0, w0⟩, turn⟩ := q
  refine loop pe hl (fun n s' => ∃ i H', Inv B pins σ0 H' s' ∧ tn i s'.heap ∧ (∀ b ∈ fp, H' b = none) ∧ W i n H') ?_ m0 ⟨0, H, I, st, hn, w0⟩
  rintro n s1 ⟨i, H1, I1, st1, n1, w1⟩
  rcases turn i n H1 w1 with ⟨stop, fin⟩ | ⟨go, Nx, hNx, step⟩
  · refine thnF (T.done B rfl rfl rfl hc i pins s1 σ0 H1 Nay I1 (fixed H1 n1) st1 stop) fun r s2 ⟨hr, I2⟩ => ?_
    subst hr
    exact ⟨rfl, H1, I2, n1, fin⟩
  · refine thnF (T.item B rfl rfl rfl hc i pins s1 σ0 H1 Nay I1 (fixed H1 n1) st1 go) fun r s2 ⟨u, hr, h2⟩ => ?_
    subst hr
    refine thnF h2 fun _ s3 ⟨x, H3, I3, r3, y3, st3, n3⟩ => ?_
    have I3' := I3.pinned (fixed H3 n3) (T.obj _ _ st3)
    have back : ∀ {σ' : L2.St} {H' : Hp} {s' : Shared}, Inv B (pins ++ pinsAt fp s3.heap) σ' H' s' → Knows σ0 σ' → Nx H' → ∃ m, m < n ∧ ∃ i H', Inv B pins σ0 H' s' ∧ tn i s'.heap ∧ (∀ b ∈ fp, H' b = none) ∧ W i m H' := fun {σ' H' s'} I' kn nx => by
      obtain ⟨m', hm, w'⟩ := hNx H' nx
      have held : ∀ b ∈ fp, ∀ o, s3.heap.get? b = some o → s'.heap.get? b = some o ∧ H' b = none := fun b hb o eo =>
        have z := I'.pin (b, o) (List.mem_append_right _ (List.mem_append_right _ (mem_pinsAt hb eo)))
        ⟨z.1, z.2.1⟩
      refine ⟨m', hm, i + 1, H', I'.unpinned.weak kn.1 kn.2, T.keep _ _ _ st3 fun b hb o eo => (held b hb o eo).1, fun b hb => ?_, w'⟩
      obtain ⟨o, eo, _⟩ := T.obj _ _ st3 b hb
      exact (held b hb o eo).2
    have pgr := pg.run _ s3 σ0 H3 x u _ I3' r3 (step x H3 y3)
    rw [hx] at pgr
    refine thnF pgr fun _ s4 ⟨σ4, H4, I4, wp4, q4⟩ => ?_
    have ptr := pt.run _ s4 σ4 H4 _ I4 q4
    rw [hx] at ptr
    refine thnF ptr fun b s5 ⟨H5, I5, q5⟩ => ?_
    have k4 : Knows σ0 σ4 := by rw [← wp4]; exact knows_wipe σ4 vs
    cases b with
    | false => exact back I5 k4 q5
    | true =>
      refine thnF (hb _ σ4 H5 s5 Nx wp4 I5 q5 _) fun f s6 ⟨ef, σ6, H6, I6, k6, nx⟩ => ⟨ef, back I6 k6 nx⟩
end
theorem plain_list {elt : Expr} {gs : List Comprehension} {scope : Scope} {pos : Pos} : Plain (.ListComp elt gs scope pos) := ⟨fun _ _ _ _ _ _ => rfl, fun _ _ _ _ _ => rfl⟩
theorem plain_dict {kx vx : Expr} {gs : List Comprehension} {scope : Scope} {pos : Pos} : Plain (.DictComp kx vx gs scope pos) := ⟨fun _ _ _ _ _ _ => rfl, fun _ _ _ _ _ => rfl⟩
end CB
/-! Comprehensions: a further clause within a clause; the block's frame; lists of three clauses. -/
namespace CB
open PySem PySem.Spec PyProof.Rows L2
/-- the body of a clause that has a further one -/
def goesOn (e : Expr) (k : Nat) (iter : Expr) (acc : Value) (env : Env) (cont : Sem PySem.Fin) : Sem PySem.Fin := do
  let x ← eval iter env
  standAt iter.pos
  let x ← foldedSetIterable iter env x
  let _ ← runOwn (.compStart e k (← holding [x] (pyIter x)) acc env) env
  cont
/-- a block's start at a clause is that of its loop -/
def Starts (e : Expr) (k : Nat) : Prop := ∀ (prog : Program) (w : World) (A : Around) (it acc : Value) (env : Env) (R : Result → Shared → Prop) (s : Shared), codeAny (model prog w) A (.compLoop e k it acc env) R s →
  wpAny (model prog w) A (pyIter it) (fun it' s' => codeAny (model prog w) A (.compLoop e k it' acc env) R s') (notedBy (model prog w) A env fun x s' => R (.error x) s') s → codeAny (model prog w) A (.compStart e k it acc env) R s
section
variable {B : Cx}
/-- A FURTHER CLAUSE -/
theorem within (hc : B.calm = true) {e tg iter : Expr} {k : Nat} {ifs : List Expr} {ip : Pos} {acc : Value} {body : Sem PySem.Fin → Sem PySem.Fin} {wi : TI} {g : TG} {tt : TT} (pe : Plain e) (hst : Starts e k)
    (hl : ∀ it, compTurn e k it acc B.env = lapOf e k tg ifs ip it acc B.env body) (hx : B.xe = Nay) (hi : PI B tg iter wi) (hf : ∀ x, foldedSetIterable iter B.env x = pure x) (pg : PG B tg g) (pt : PTs B ifs tt)
    {pins : List (Addr × Obj)} {σ0 σ2 : L2.St} {vs us : List Nat} {Body : L2.St → Hp → (Hp → Prop) → Prop} {Nx : Hp → Prop} {H : Hp} {s : Shared} (hw : wipe σ2 vs = σ0) (hv : σ0 = wipe σ0 vs) (sub : ∀ i ∈ us, i ∈ vs)
    (hb : ∀ pl σ3 H3 s3 N, wipe σ3 us = wipe σ2 us → Inv B (pins ++ pl) σ3 H3 s3 → Body σ3 H3 N → ∀ c : Code, wpAny (model B.prog B.w) B.A (body (again c)) (fun f s' => f = .again c ∧ ∃ σ4 H', Inv B (pins ++ pl) σ4 H' s' ∧ Knows (wipe σ2 us) σ4 ∧ N H') Nay s3)
    (I : Inv B pins σ2 H s) (q : wi σ2 H fun J H1 => ClauseQ J g tt (wipe σ2 us) us Body Nx H1) :
    ∀ c : Code, wpAny (model B.prog B.w) B.A (goesOn e k iter acc B.env (again c)) (fun f s' => f = .again c ∧ ∃ σ3 H', Inv B pins σ3 H' s' ∧ Knows σ0 σ3 ∧ Nx H') Nay s := by
  intro c
  have kn : Knows σ0 (wipe σ2 us) := by
    have := knows_sub (σ := σ2) (σ' := σ2) (vs := vs) (us := us) rfl sub
    rwa [hw] at this
  have run := hi.run pins s σ2 H _ I q
  rw [hx] at run
  unfold goesOn
  refine wpAny_bind (thnF run fun x s1 h1 => wpAny_bind (wpAny_standAt (wpAny_bind (wpAny_of_eq (hf x) (wpAny_bind (wpAny_holding (thnF h1 fun itv s2 h2 => ?_)))))))
  obtain ⟨it, fp, tn, J, H2, e1, I2, T, st2, f2, cq⟩ := h2
  subst e1
  have I3 := I2.weak (knows_wipe σ2 us).1 (knows_wipe σ2 us).2
  have lp := clause (ip := ip) hc pe (hl (.ref it)) hx pg pt T (fun H' hn b hb => ⟨hn b hb, (f2 b hb).2⟩) hb I3 st2 (fun b hb => (f2 b hb).1) cq
  refine wpAny_bind (wpAny_runOwn ?_)
  rw [Around.mark_none]
  refine codeAny_mono (hst _ _ _ _ _ _ _ _ lp (T.self B.A 0 _ _ _ st2 lp)) fun r s' hr => ?_
  obtain ⟨rfl, H', I', _, nx⟩ := hr
  exact wpAny_pure ⟨rfl, _, H', I', kn, nx⟩
/-- the body that gathers into a list -/
def gathers (elt : Expr) (acc : Value) (env : Env) (cont : Sem PySem.Fin) : Sem PySem.Fin := do
  (do let _ ← call (.builtin "list.append") [acc, ← eval elt env])
  cont
theorem leaf_list {elt : Expr} {D : Addr} {te : TE} (hx : B.xe = Nay) (he : PE B elt te) {pins : List (Addr × Obj)} {σ0 σ2 : L2.St} {vs : List Nat} {Nx : Hp → Prop} {H : Hp} {s : Shared} (hw : wipe σ2 vs = σ0) (I : Inv B pins σ2 H s)
    (q : te σ2 H fun y H1 => ∃ acc, H1 D = some (.lst acc) ∧ acc.length < sizeLine ∧ Nx (upd H1 D (.lst (acc ++ [y])))) :
    ∀ c : Code, wpAny (model B.prog B.w) B.A (gathers elt (.ref D) B.env (again c)) (fun f s' => f = .again c ∧ ∃ σ3 H', Inv B pins σ3 H' s' ∧ Knows σ0 σ3 ∧ Nx H') Nay s := by
  intro c
  have run := he.run pins s σ2 H _ I q
  rw [hx] at run
  unfold gathers
  refine wpAny_bind (wpAny_bind (thnF run fun z s1 ⟨y, H1, I1, r1, acc, hD, hz, nx⟩ => wpAny_bind (app_ok (X := B) I1 hD hz r1 fun s2 I2 => wpAny_pure (wpAny_pure ⟨rfl, σ2, _, I2, ?_, nx⟩))))
  rw [← hw]
  exact knows_wipe σ2 vs
end
section
variable {X : Cx}
/-- THE BLOCK: new at D a list or a dict; the first clause is walked; behind it the def goes on -/
theorem block {e tg iter : Expr} {ifs : List Expr} {gs : List Comprehension} {scope : Scope} {own : List (Str × Nat)} {pos' : Pos} {wi : TI} {mk : Sem Value} {ob : Obj} {u0 : Addr → HO} {use : Option (Value → Sem Unit)} {Qf : Value → Shared → Prop}
    {pins : List (Addr × Obj)} {s : Shared} {σ : L2.St} {H : Hp} {Q : VK} (hc : X.calm = true) (hN : X.N.Nodup) (I : Inv X pins σ H s) (hcl : clausesOf e = ⟨tg, iter, ifs, 0⟩ :: gs) (hst : Starts e 0) (hi : PI X tg iter wi) (ok : BlkOk X.N X.env.scope scope own)
    (hs : ∀ x, foldedSetIterable iter X.env x = pure x) (hm : ∀ (s : Shared) (Q : Value → Shared → Prop), Q (.ref s.heap.objs.size) { s with heap := s.heap.push ob } → wpAny (model X.prog X.w) X.A mk Q X.xe s)
    (ho : ∀ (s : Shared) (σ : L2.St) (H : Hp), Inv X pins σ H s → ObjOk X.prog X.w (upd H s.heap.objs.size (u0 s.heap.objs.size)) (s.heap.push ob) s.heap.objs.size (u0 s.heap.objs.size)) {ClQ : It → Addr → Hp → Prop}
    (q : wi σ H fun J H1 => ∀ D, H1 D = none → ClQ J D (upd H1 D (u0 D)))
    (hloop : ∀ (s3 s4 : Shared) (H3 : Hp) (ce : Env) (C : Addr) (cl : List (Str × Addr)) (fp : List Addr) (it D : Addr) (tn : Nat → Heap → Prop) (J : It), ce = compEnvC scope cl C X.env → Turn X.prog X.w X.K tg J fp it tn → ClQ J D H3 →
      (∀ H', (∀ b ∈ fp, H' b = none) → ∀ b ∈ fp, FpOk (X.blk s3 H3 scope ce fp) [] H' b) → Inv (X.blk s3 H3 scope ce fp) [] (wipe σ (own.map (·.2))) H3 s4 → tn 0 s4.heap → (∀ b ∈ fp, H3 b = none) →
      codeAny (model X.prog X.w) X.A (.compLoop e 0 (.ref it) (.ref D) ce) (fun r s' => r = .ok .next ∧ ∃ H', Inv (X.blk s3 H3 scope ce fp) [] (wipe σ (own.map (·.2))) H' s' ∧ (∀ b ∈ fp, H' b = none) ∧ Q (.ref D) H') s4)
    (hR : ∀ D C s' m H', Inv X pins σ H' s' → Q (.ref D) H' → s'.heap.Ns C m → FpOk X pins H' C → compPost (model X.prog X.w) X.A X.xe use Qf (.ref D) C (.ok .next) s') :
    wpAny (model X.prog X.w) X.A (comprehension e scope X.env pos' mk false (eval iter X.env) use) Qf X.xe s := by
  have cells : ∀ y ∈ scope.names, y.2 = .free → ∃ c, X.env.cells.lookup y.1 = some c := fun y hy ey => by
    rcases ok.free y hy ey with z | z
    · exact I.ok.has _ (.inl z)
    · exact I.ok.has _ (.inr z)
  refine wpAny_comprehension_free (use := use) hcl hs (closure_ok cells) ok.kind (fun y hy ey => by rw [ok.uniq y hy, ey]) (thn (hi.run pins s σ H _ I q) fun xv s1 h1 => thn h1 fun itv s2 h2 => ?_)
  obtain ⟨it, fp, tn, J, H2, e2, I2, T, st2, f2, cq⟩ := h2
  subst e2
  refine hm s2 _ (newEnv_comp ?_)
  obtain ⟨D, hD⟩ : ∃ D, D = s2.heap.objs.size := ⟨_, rfl⟩
  have fresh : H2 D = none := I2.hok.fresh (Nat.le_of_eq hD.symm)
  obtain ⟨s3, e3⟩ : ∃ s3 : Shared, s3 = { s2 with heap := s2.heap.push ob } := ⟨_, rfl⟩
  have I3 : Inv X pins σ (upd H2 D (u0 D)) s3 := by
    rw [e3, hD]
    exact I2.laid (t' := s2.toks) (fun b o z => Heap.get?_push_of_some _ z) (Nat.le_refl _) (ho s2 σ H2 I2)
  have h3 : s3.heap = s2.heap.push ob := by rw [e3]
  have size3 : s2.heap.objs.size < s3.heap.objs.size := by rw [h3, Heap.size_push]; exact Nat.lt_succ_self _
  have small : ∀ b ∈ fp, b < s2.heap.objs.size := fun b hb => by
    obtain ⟨o, z, _⟩ := T.obj _ _ st2 b hb
    exact Heap.lt_size z
  have f3 : ∀ b ∈ fp, FpOk X pins (upd H2 D (u0 D)) b ∧ b < s3.heap.objs.size := fun b hb => by
    refine ⟨⟨?_, (f2 b hb).2⟩, Nat.lt_trans (small b hb) size3⟩
    rw [upd_ne (by rw [hD]; exact Nat.ne_of_lt (small b hb))]
    exact (f2 b hb).1
  have st3 : tn 0 s3.heap := T.keep _ _ _ st2 fun b _ o z => by rw [h3]; exact Heap.get?_push_of_some _ z
  have I4 := block_start I3 ok hN f3
  obtain ⟨cl, ecl⟩ : ∃ cl, cl = cellsFrom (s3.heap.objs.size + 1) scope.names (cloFrom X.env.cells scope.names []) := ⟨_, rfl⟩
  obtain ⟨ce, ece⟩ : ∃ ce, ce = compEnvC scope cl s3.heap.objs.size X.env := ⟨_, rfl⟩
  rw [← ecl, ← ece] at I4
  have loc : ce.locals = s3.heap.objs.size := by rw [ece]; rfl
  obtain ⟨s4, e4⟩ : ∃ s4 : Shared, s4 = { s3 with heap := pushCells (s3.heap.push { cls := .type "dict", data := .dict #[] }) scope.names } := ⟨_, rfl⟩
  rw [← e4] at I4
  have st4 : tn 0 s4.heap := T.keep _ _ _ st3 fun b _ o z => by rw [e4]; exact pushCells_keeps _ _ _ _ (Heap.get?_push_of_some _ z)
  have fixed : ∀ H', (∀ b ∈ fp, H' b = none) → ∀ b ∈ fp, FpOk (X.blk s3 (upd H2 D (u0 D)) scope ce fp) [] H' b := fun H' hn b hb =>
    ⟨hn b hb, (I4.ok.exf b hb).1, I4.ok.exfs b hb, .inl hb, fun x c z => (I4.ok.exf b hb).2 x c z, fun p hp => absurd (show p ∈ ([] : List (Addr × Obj)) ++ [] from hp) (by simp)⟩
  have run := hloop s3 s4 (upd H2 D (u0 D)) ce _ cl fp it D tn J ece T (cq D fresh) fixed I4 st4 (fun b hb => (f3 b hb).1.1)
  have after : codeAny (model X.prog X.w) X.A (.compLoop e 0 (.ref it) (.ref D) ce) (compPost (model X.prog X.w) X.A X.xe use Qf (.ref D) s3.heap.objs.size) s4 := by
    refine codeAny_mono run fun r s6 hr => ?_
    obtain ⟨rfl, H6, I6, n6, q6⟩ := hr
    have I7 : Inv X pins σ H6 s6 := I3.call' (ch := fp) I6.os I6.base I6.hok I6.bare fun b hb => ⟨(f3 b hb).1.2.2.2.1, (f3 b hb).1.2.1, (f3 b hb).1.2.2.2.2.1, (f3 b hb).1.2.2.2.2.2⟩
    have free : H6 s3.heap.objs.size = none := by
      have z : H6 ce.locals = none := I6.free
      rwa [loc] at z
    obtain ⟨m, hn, _⟩ := I6.loc
    have hn' : s6.heap.Ns ce.locals m := hn
    rw [loc] at hn'
    exact hR D s3.heap.objs.size s6 m H6 I7 q6 hn' (I3.fpOk (Nat.le_refl _) free)
  have goal := hst X.prog X.w X.A (.ref it) (.ref D) ce _ s4 after (T.self X.A 0 _ _ _ st4 after)
  subst e4
  subst ece
  subst ecl
  subst e3
  subst hD
  exact goal
end
end CB
/-! A list of three clauses. -/
namespace CB
open PySem PySem.Spec PyProof.Rows L2
theorem starts_any {e : Expr} {k : Nat} (p : Pos) (h0 : k = 0 ∨ k ≠ 0) (hd : ∀ (prog : Program) (w : World) (it acc : Value) (env : Env), (model prog w).den (.compStart e k it acc env) = (compStart e k it acc env).onRaise fun x => do noteFrame x env; standAt theWindowsPlace)
    (hu : ∀ (A : Around) (it acc : Value) (env : Env), A.under (.compStart e k it acc env) = A) (hp : ∀ (prog : Program) (w : World) (A : Around) (it acc : Value) (env : Env) (R : Result → Shared → Prop) (s : Shared), codeAny (model prog w) A (.compLoop e k it acc env) R s →
      wpAny (model prog w) A (pyIter it) (fun it' s' => codeAny (model prog w) A (.compLoop e k it' acc env) R s') (notedBy (model prog w) A env fun x s' => R (.error x) s') s →
      wpAny (model prog w) A (compStart e k it acc env) (fun fin s' => match fin with
        | .done f => R (.ok f) s'
        | .again c => c.quiet = true ∧ codeAny (model prog w) A c R s') (notedBy (model prog w) A env fun x s' => R (.error x) s') s) : Starts e k := fun prog w A it acc env R s a b => by
  refine codeAny_of_tree ?_
  rw [hd, hu]
  exact wpAny_notedAt (hp prog w A it acc env R s a b)
section
variable {elt t0 i0 t1 i1 t2 i2 : Expr} {f0 f1 f2 : List Expr} {scope : Scope} {pos : Pos}
abbrev three (elt t0 i0 : Expr) (f0 : List Expr) (t1 i1 : Expr) (f1 : List Expr) (t2 i2 : Expr) (f2 : List Expr) (scope : Scope) (pos : Pos) : Expr := .ListComp elt [⟨t0, i0, f0, 0⟩, ⟨t1, i1, f1, 0⟩, ⟨t2, i2, f2, 0⟩] scope pos
theorem starts_0 : Starts (three elt t0 i0 f0 t1 i1 f1 t2 i2 f2 scope pos) 0 := fun _ _ _ _ _ _ _ _ a b => codeAny_compStart_list a b
theorem starts_1 : Starts (three elt t0 i0 f0 t1 i1 f1 t2 i2 f2 scope pos) 1 := by
  refine starts_any i1.pos (.inr (by decide)) (fun _ _ _ _ _ => rfl) (fun _ _ _ _ => rfl) fun prog w A it acc env R s a b => ?_
  unfold compStart
  show wpAny _ _ (ask >>= _) _ _ s
  refine wpAny_bind (wpAny_askSetting (wpAny_ite ?_))
  split
  · first | exact wpAny_bind (wpAny_pure (wpAny_pure ⟨rfl, a⟩)) | exact wpAny_pure ⟨rfl, a⟩
  · refine wpAny_bind (wpAny_rule ?_)
    first
      | exact wpAny_bind (wpAny_standAt (wpAny_bind (thn b fun it' s' z => wpAny_pure ⟨rfl, z⟩)))
      | (show wpAny _ _ (standAt i1.pos >>= _) _ _ s; exact wpAny_bind (wpAny_standAt (wpAny_bind (thn b fun it' s' z => wpAny_pure ⟨rfl, z⟩))))
theorem starts_2 : Starts (three elt t0 i0 f0 t1 i1 f1 t2 i2 f2 scope pos) 2 := by
  refine starts_any i2.pos (.inr (by decide)) (fun _ _ _ _ _ => rfl) (fun _ _ _ _ => rfl) fun prog w A it acc env R s a b => ?_
  unfold compStart
  show wpAny _ _ (ask >>= _) _ _ s
  refine wpAny_bind (wpAny_askSetting (wpAny_ite ?_))
  split
  · first | exact wpAny_bind (wpAny_pure (wpAny_pure ⟨rfl, a⟩)) | exact wpAny_pure ⟨rfl, a⟩
  · refine wpAny_bind (wpAny_rule ?_)
    first
      | exact wpAny_bind (wpAny_standAt (wpAny_bind (thn b fun it' s' z => wpAny_pure ⟨rfl, z⟩)))
      | (show wpAny _ _ (standAt i2.pos >>= _) _ _ s; exact wpAny_bind (wpAny_standAt (wpAny_bind (thn b fun it' s' z => wpAny_pure ⟨rfl, z⟩))))
theorem lap_0 (it acc : Value) (env : Env) : compTurn (three elt t0 i0 f0 t1 i1 f1 t2 i2 f2 scope pos) 0 it acc env = lapOf (three elt t0 i0 f0 t1 i1 f1 t2 i2 f2 scope pos) 0 t0 f0 i0.pos it acc env (goesOn (three elt t0 i0 f0 t1 i1 f1 t2 i2 f2 scope pos) 1 i1 acc env) := rfl
theorem lap_1 (it acc : Value) (env : Env) : compTurn (three elt t0 i0 f0 t1 i1 f1 t2 i2 f2 scope pos) 1 it acc env = lapOf (three elt t0 i0 f0 t1 i1 f1 t2 i2 f2 scope pos) 1 t1 f1 i1.pos it acc env (goesOn (three elt t0 i0 f0 t1 i1 f1 t2 i2 f2 scope pos) 2 i2 acc env) := rfl
theorem lap_2 (it acc : Value) (env : Env) : compTurn (three elt t0 i0 f0 t1 i1 f1 t2 i2 f2 scope pos) 2 it acc env = lapOf (three elt t0 i0 f0 t1 i1 f1 t2 i2 f2 scope pos) 2 t2 f2 i2.pos it acc env (gathers elt acc env) := rfl
/-- [elt for .. for .. for ..]: v0, v1, v2 the slots of all the block's names, of the second and third targets', of the third's -/
def tLc3 (w0 : TI) (g0 : TG) (c0 : TT) (w1 : TI) (g1 : TG) (c1 : TT) (w2 : TI) (g2 : TG) (c2 : TT) (te : TE) (v0 v1 v2 : List Nat) : TE := fun σ H Q => w0 σ H fun J H1 => ∀ D, H1 D = none → ClauseQ J g0 c0 (wipe σ v0) v0
  (fun σ2 H2 N => w1 σ2 H2 fun J1 H3 => ClauseQ J1 g1 c1 (wipe σ2 v1) v1 (fun σ3 H4 N1 => w2 σ3 H4 fun J2 H5 => ClauseQ J2 g2 c2 (wipe σ3 v2) v2 (fun σ4 H6 N2 => te σ4 H6 fun y H7 => ∃ acc, H7 D = some (.lst acc) ∧ acc.length < sizeLine ∧ N2 (upd H7 D (.lst (acc ++ [y])))) N1 H5) N H3) (Q (.ref D)) (upd H1 D (.lst []))
theorem wipe_twice (σ : L2.St) (vs : List Nat) : wipe σ vs = wipe (wipe σ vs) vs := by
  apply List.ext_getElem?
  intro i
  by_cases h : i ∈ vs
  · rcases Nat.lt_or_ge i σ.length with z | z
    · have a : ∀ τ : L2.St, τ.length = σ.length → (wipe τ vs)[i]? = some none := fun τ ht => by
        cases e : (wipe τ vs)[i]? with
        | none =>
          rw [List.getElem?_eq_none_iff, wipe_length] at e
          omega
        | some o => cases o with
          | none => rfl
          | some v => exact absurd h (wipe_some e).2
      rw [a σ rfl, a _ (wipe_length σ vs)]
    · rw [List.getElem?_eq_none (by rw [wipe_length]; omega), List.getElem?_eq_none (by rw [wipe_length, wipe_length]; omega)]
  · rw [wipe_out h, wipe_out h, wipe_out h]
variable {X : Cx}
theorem pe_lc3 {own : List (Str × Nat)} {v1 v2 : List Nat} {w0 w1 w2 : TI} {g0 g1 g2 : TG} {c0 c1 c2 : TT} {te : TE} (hc : X.calm = true) (hN : X.N.Nodup) (hi : PI X t0 i0 w0) (ok : BlkOk X.N X.env.scope scope own)
    (h1 : ∀ i ∈ v1, i ∈ own.map (·.2)) (h2 : ∀ i ∈ v2, i ∈ v1)
    (a0 : ∀ (s : Shared) (H : Hp) (C : Addr) (cl : List (Str × Addr)) (fp : List Addr), PG (X.blk s H scope (compEnvC scope cl C X.env) fp) t0 g0) (b0 : ∀ (s : Shared) (H : Hp) (C : Addr) (cl : List (Str × Addr)) (fp : List Addr), PTs (X.blk s H scope (compEnvC scope cl C X.env) fp) f0 c0)
    (j1 : ∀ (s : Shared) (H : Hp) (C : Addr) (cl : List (Str × Addr)) (fp : List Addr), PI (X.blk s H scope (compEnvC scope cl C X.env) fp) t1 i1 w1)
    (a1 : ∀ (s : Shared) (H : Hp) (C : Addr) (cl : List (Str × Addr)) (fp : List Addr), PG (X.blk s H scope (compEnvC scope cl C X.env) fp) t1 g1) (b1 : ∀ (s : Shared) (H : Hp) (C : Addr) (cl : List (Str × Addr)) (fp : List Addr), PTs (X.blk s H scope (compEnvC scope cl C X.env) fp) f1 c1)
    (j2 : ∀ (s : Shared) (H : Hp) (C : Addr) (cl : List (Str × Addr)) (fp : List Addr), PI (X.blk s H scope (compEnvC scope cl C X.env) fp) t2 i2 w2)
    (a2 : ∀ (s : Shared) (H : Hp) (C : Addr) (cl : List (Str × Addr)) (fp : List Addr), PG (X.blk s H scope (compEnvC scope cl C X.env) fp) t2 g2) (b2 : ∀ (s : Shared) (H : Hp) (C : Addr) (cl : List (Str × Addr)) (fp : List Addr), PTs (X.blk s H scope (compEnvC scope cl C X.env) fp) f2 c2)
    (he : ∀ (s : Shared) (H : Hp) (C : Addr) (cl : List (Str × Addr)) (fp : List Addr), PE (X.blk s H scope (compEnvC scope cl C X.env) fp) elt te)
    (k0 : ∀ x, foldedSetIterable i0 X.env x = pure x := by intro _; rfl) (k1 : ∀ env x, foldedSetIterable i1 env x = pure x := by intro _ _; rfl) (k2 : ∀ env x, foldedSetIterable i2 env x = pure x := by intro _ _; rfl) :
    PE X (three elt t0 i0 f0 t1 i1 f1 t2 i2 f2 scope pos) (tLc3 w0 g0 c0 w1 g1 c1 w2 g2 c2 te (own.map (·.2)) v1 v2) := by
  refine ⟨fun pins s σ H Q I q => ?_⟩
  show wpAny _ _ (eval (.ListComp elt [⟨t0, i0, f0, 0⟩, ⟨t1, i1, f1, 0⟩, ⟨t2, i2, f2, 0⟩] scope pos) X.env) _ _ s
  rw [eval_ListComp]
  refine block (Q := Q) (e := three elt t0 i0 f0 t1 i1 f1 t2 i2 f2 scope pos) (ob := { cls := .type "list", data := .seq ([] : List Value).toArray }) (u0 := fun _ => .lst []) hc hN I rfl starts_0 hi ok k0 (fun s Q h => wpAny_newObj_type h (by show 0 ≤ sizeLine; decide))
    (fun s σ H I => ⟨Nat.zero_le _, [], 0, .nil, Heap.get?_push_size _ rfl⟩) q ?_ fun D C s' m H' I' qq hn f => ⟨m, hn, fun h'' sb => ?_⟩
  · intro s3 s4 H3 ce C cl fp it D tn J ece T cq fixed I4 st hn
    subst ece
    refine clause (B := X.blk s3 H3 scope (compEnvC scope cl C X.env) fp) (ip := i0.pos) hc plain_list (lap_0 _ _ _) rfl (a0 s3 H3 C cl fp) (b0 s3 H3 C cl fp) T fixed (fun pl σ2 H4 s5 N hw I5 q5 => ?_) I4 st hn cq
    refine within (B := X.blk s3 H3 scope (compEnvC scope cl C X.env) fp) (ip := i1.pos) hc plain_list starts_1 (fun it => lap_1 it _ _) rfl (j1 s3 H3 C cl fp) (k1 _) (a1 s3 H3 C cl fp) (b1 s3 H3 C cl fp) hw (wipe_twice _ _) h1 (fun pl2 σ3 H6 s6 N1 hw3 I6 q6 => ?_) I5 q5
    refine within (B := X.blk s3 H3 scope (compEnvC scope cl C X.env) fp) (ip := i2.pos) hc plain_list starts_2 (fun it => lap_2 it _ _) rfl (j2 s3 H3 C cl fp) (k2 _) (a2 s3 H3 C cl fp) (b2 s3 H3 C cl fp) hw3 (wipe_twice _ _) h2 (fun pl3 σ4 H7 s7 N2 hw4 I7 q7 => ?_) I6 q6
    exact leaf_list (B := X.blk s3 H3 scope (compEnvC scope cl C X.env) fp) rfl (he s3 H3 C cl fp) hw4 I7 q7
  · obtain ⟨f0, f1, f2, f3, f4, f5⟩ := f
    exact ⟨.ref D, H', I'.turned (t' := s'.toks) (fun b o hb z => (sb.2 b hb).trans z) f0 f1 f3 f4 f5, rfl, qq⟩
end
end CB
/-! lists of any number of clauses, over data: one clause; three clauses -/
namespace DL
open PySem PySem.Spec PyProof.Rows L2 CB
/-- what a clause asks, its body's reading told: the list so far goes along -/
def clW (wg : WG) (wt : WT) (bd : Dl → List PyData → (List PyData → Prop) → Prop) (δ : Dl) : List PyData → List PyData → (List PyData → Prop) → Prop
  | [], acc, Φ => Φ acc
  | x :: xs, acc, Φ => wg x δ fun δ2 => wt δ2 fun b => if b = true then bd δ2 acc fun acc' => clW wg wt bd δ xs acc' Φ else clW wg wt bd δ xs acc Φ
/-- one more element -/
def leW (we : WE) : Dl → List PyData → (List PyData → Prop) → Prop := fun δ acc Φ => we δ fun d => acc.length < sizeLine ∧ Φ (acc ++ [d])
/-- what is kept of the list at D, and beside it, is kept by what follows -/
structure Steady (K : PySem.W.Frag) (C : Ct) (M : Addr → Prop) (D : Addr) (P : Hp → List PyData → Prop) : Prop where
  at_ : ∀ H ds, P H ds → ∃ acc, H D = some (.lst acc) ∧ DrA K M H acc ds
  ext : ∀ H H' ds, P H ds → ExtP C.p H H' → PenV K M H' C.p → P H' ds
  poke : ∀ H ds acc y dy, P H ds → H D = some (.lst acc) → Dr K M H y dy → P (upd H D (.lst (acc ++ [y]))) (ds ++ [dy])
section
variable {K : PySem.W.Frag} {C : Ct} {M : Addr → Prop} {D : Addr} {P : Hp → List PyData → Prop}
/-- beside it: a state, and what is walked -/
theorem Steady.and (S : Steady K C M D P) {σ : Sl} {δ : Dl} {J : It} {items : List PyData} {B : (Addr → Prop) → Hp → Prop} (it : ItD K J items B) (h0 : C.H0 D = none) (m : M D) (no : ∀ i ds, δ[i]? = some (.own ds) → sAt σ i ≠ some (.ref D)) :
    Steady K C M D (fun H ds => P H ds ∧ Ok K C M H σ δ ∧ B M H) where
  at_ := fun H ds p => S.at_ H ds p.1
  ext := fun H H' ds p x pv => ⟨S.ext H H' ds p.1 x pv, p.2.1.next x pv, it.keep _ _ _ _ p.2.2 fun v d r => r.stays (x.stays p.2.1.pen)⟩
  poke := fun H ds acc y dy p hD r => by
    obtain ⟨I, st⟩ := p.2.1.poke (ys := acc ++ [y]) h0 m hD no
    exact ⟨S.poke H ds acc y dy p.1 hD r, I, it.keep _ _ _ _ p.2.2 fun v d r => r.stays st⟩
/-- what is asked of a body: from any steady state to the next one -/
def BodyOk (K : PySem.W.Frag) (C : Ct) (M : Addr → Prop) (D : Addr) (bd : Dl → List PyData → (List PyData → Prop) → Prop) (Body : L2.St → Hp → (Hp → Prop) → Prop) : Prop :=
  ∀ (P : Hp → List PyData → Prop) σ δ H ds Φ (N : Hp → Prop), Steady K C M D P → (∀ i ds, δ[i]? = some (.own ds) → sAt σ i ≠ some (.ref D)) → Ok K C M H σ δ → P H ds → bd δ ds Φ → (∀ H' ds', P H' ds' → Φ ds' → N H') → Body σ H N
theorem clause_ok {J : It} {items : List PyData} {B : (Addr → Prop) → Hp → Prop} {g : TG} {wg : WG} {is vs : List Nat} {tt : TT} {wt : WT} {bd : Dl → List PyData → (List PyData → Prop) → Prop} {Body : L2.St → Hp → (Hp → Prop) → Prop} {Stop : Hp → Prop}
    (S : Steady K C M D P) (it : ItD K J items B) (hg : DGt K g wg is) (hsub : ∀ i ∈ is, i ∈ vs) (ht : DTt K tt wt) (hb : BodyOk K C M D bd Body) (h0 : C.H0 D = none) (m : M D) {σ : Sl} {δ : Dl} (no : ∀ i ds, δ[i]? = some (.own ds) → sAt σ i ≠ some (.ref D))
    {H : Hp} {ds : List PyData} {Φ : List PyData → Prop} (I : Ok K C M H σ δ) (p : P H ds) (b : B M H) (h : clW wg wt bd (wipeD δ vs) items ds Φ) (fin : ∀ H' ds', P H' ds' → Φ ds' → Stop H') : ClauseQ J g tt (wipe σ vs) vs Body Stop H := by
  have S2 := S.and it h0 m no
  refine ⟨fun i n H' => ∃ ds, P H' ds ∧ Ok K C M H' σ δ ∧ B M H' ∧ clW wg wt bd (wipeD δ vs) (items.drop i) ds Φ ∧ n = items.length - i ∧ i ≤ items.length, ⟨_, ds, p, I, b, h, rfl, Nat.zero_le _⟩, ?_⟩
  rintro i n H' ⟨ds', p', I', b', h', rfl, hle⟩
  by_cases hlt : i < items.length
  · obtain ⟨d, hd, hdrop⟩ := drop_cons hlt
    rw [hdrop] at h'
    obtain ⟨go, yld⟩ := it.go i M H' d b' hd
    refine .inr ⟨go, fun H2 => ∃ ds, P H2 ds ∧ Ok K C M H2 σ δ ∧ B M H2 ∧ clW wg wt bd (wipeD δ vs) (items.drop (i + 1)) ds Φ,
      fun H2 ⟨ds, a1, a2, a3, a4⟩ => ⟨_, (by omega : items.length - (i + 1) < items.length - i), ds, a1, a2, a3, a4, rfl, hlt⟩, fun x Hx hy => ?_⟩
    obtain ⟨sm, rx⟩ := yld x Hx hy
    have px := S2.ext _ Hx _ ⟨p', I', b'⟩ (ExtP.of_same sm) (I'.pen.stay sm)
    have Ix := px.2.1
    refine hg.run C M Hx (wipe σ vs) (wipeD δ vs) x d _ _ (Ix.wiped vs) rx h' fun σ3 δ3 I3 w3 ow3 h3 => ?_
    refine ⟨by rw [w3 vs hsub, DL.wipe_twice], ?_⟩
    refine ht.run C M Hx σ3 δ3 _ _ I3 h3 fun k H4 x4 p4 h4 => ?_
    have q4 := S2.ext _ H4 _ px x4 p4
    cases k with
    | false => exact ⟨ds', q4.1, q4.2.1, q4.2.2, h4⟩
    | true =>
      refine hb _ σ3 δ3 H4 ds' _ _ S2 (fun i ds e z => ?_) (I3.next x4 p4) q4 h4 fun H5 ds5 q5 h5 => ⟨ds5, q5.1, q5.2.1, q5.2.2, h5⟩
      obtain ⟨e1, z1⟩ := ((OwnLe.wiped vs).trans ow3) i ds e
      exact no i ds e1 (z1 ▸ z)
  · have e : i = items.length := by omega
    subst e
    rw [List.drop_length] at h'
    exact .inl ⟨it.stop _ H' b', fin H' ds' p' h'⟩
/-- the leaf of a list -/
theorem leaf_ok {te : TE} {we : WE} (he : DEt K te we) (np : C.p ≠ some D) : BodyOk K C M D (leW we) (fun σ H N => te σ H fun y H1 => ∃ acc, H1 D = some (.lst acc) ∧ acc.length < sizeLine ∧ N (upd H1 D (.lst (acc ++ [y])))) := by
  intro P σ δ H ds Φ N S no I p hw q
  refine he.run C M H σ δ _ _ I hw fun y dy H1 x1 p1 r1 h1 => ?_
  have P1 := S.ext _ H1 _ p x1 p1
  obtain ⟨acc, hD, ra⟩ := S.at_ _ _ P1
  exact ⟨acc, hD, by rw [← ra.length]; exact h1.1, q _ _ (S.poke _ _ acc y dy P1 hD r1) h1.2⟩
/-- a further clause as a body -/
theorem within_ok {wi : TI} {wI : WI} {g : TG} {wg : WG} {is vs : List Nat} {tt : TT} {wt : WT} {bd : Dl → List PyData → (List PyData → Prop) → Prop} {Body : L2.St → Hp → (Hp → Prop) → Prop}
    (hi : DIt K wi wI) (hg : DGt K g wg is) (hsub : ∀ i ∈ is, i ∈ vs) (ht : DTt K tt wt) (hb : BodyOk K C M D bd Body) (h0 : C.H0 D = none) (m : M D) :
    BodyOk K C M D (fun δ acc Φ => wI δ fun items => clW wg wt bd (wipeD δ vs) items acc Φ) (fun σ H N => wi σ H fun J H1 => ClauseQ J g tt (wipe σ vs) vs Body N H1) := by
  intro P σ δ H ds Φ N S no I p hw q
  refine hi.run C M H σ δ _ _ I hw fun J items B H1 x1 p1 it b1 h1 => ?_
  exact clause_ok S it hg hsub ht hb h0 m no (I.next x1 p1) (S.ext _ H1 _ p x1 p1) b1 h1 q
end
def wLc3 (wI0 : WI) (wg0 : WG) (wt0 : WT) (wI1 : WI) (wg1 : WG) (wt1 : WT) (wI2 : WI) (wg2 : WG) (wt2 : WT) (we : WE) (v0 v1 v2 : List Nat) : WF := fun δ Φ => wI0 δ fun items =>
  clW wg0 wt0 (fun δ acc Φ => wI1 δ fun items => clW wg1 wt1 (fun δ acc Φ => wI2 δ fun items => clW wg2 wt2 (leW we) (wipeD δ v2) items acc Φ) (wipeD δ v1) items acc Φ) (wipeD δ v0) items [] Φ
section
variable {K : PySem.W.Frag}
theorem dft_lc3 {w0 w1 w2 : TI} {wI0 wI1 wI2 : WI} {g0 g1 g2 : TG} {wg0 wg1 wg2 : WG} {is0 is1 is2 v0 v1 v2 : List Nat} {c0 c1 c2 : TT} {wt0 wt1 wt2 : WT} {te : TE} {we : WE} (hi0 : DIt K w0 wI0) (hg0 : DGt K g0 wg0 is0) (s0 : ∀ i ∈ is0, i ∈ v0) (ht0 : DTt K c0 wt0)
    (hi1 : DIt K w1 wI1) (hg1 : DGt K g1 wg1 is1) (s1 : ∀ i ∈ is1, i ∈ v1) (ht1 : DTt K c1 wt1) (hi2 : DIt K w2 wI2) (hg2 : DGt K g2 wg2 is2) (s2 : ∀ i ∈ is2, i ∈ v2) (ht2 : DTt K c2 wt2) (he : DEt K te we) :
    DFt K (tLc3 w0 g0 c0 w1 g1 c1 w2 g2 c2 te v0 v1 v2) (wLc3 wI0 wg0 wt0 wI1 wg1 wt1 wI2 wg2 wt2 we v0 v1 v2) := by
  refine ⟨fun C M H σ δ Q Φ I hw q => hi0.run C M H σ δ _ _ I hw fun J items B H1 x1 p1 it b1 h1 => ?_⟩
  have I1 := I.next x1 p1
  intro D hD
  have hD0 : H D = none := new_of I x1 p1 hD
  have hC0 : C.H0 D = none := I1.fresh0 hD
  have np : C.p ≠ some D := fun z => by
    obtain ⟨o, e⟩ := I.pH0 _ z
    rw [hC0] at e; cases e
  have slotNo := slot_no I1 hD
  have S : Steady K C (With M D) D (fun H' ds => Ok K C (With M D) H' σ δ ∧ ExtP C.p H H' ∧ ∃ acc, H' D = some (.lst acc) ∧ DrA K (With M D) H' acc ds) := {
    at_ := fun H' ds p => p.2.2
    ext := fun H' H2 ds p x pv => by
      obtain ⟨I', x', acc, hA, ra⟩ := p
      exact ⟨I'.next x pv, x'.trans x, acc, x _ _ hA np, ra.stays (x.stays I'.pen)⟩
    poke := fun H' ds acc y dy p hA r => by
      obtain ⟨I', x', acc', hA', ra⟩ := p
      rw [hA] at hA'
      cases hA'
      obtain ⟨I2, st⟩ := I'.poke (ys := acc ++ [y]) hC0 (.inr rfl) hA slotNo
      refine ⟨I2, fun b u e n => ?_, acc ++ [y], upd_same, (ra.append (.cons r .nil)).stays st⟩
      have ne : b ≠ D := fun z => by
        subst z
        rw [hD0] at e; cases e
      rw [upd_ne ne]
      exact x' _ _ e n }
  refine clause_ok S it hg0 s0 ht0 (within_ok hi1 hg1 s1 ht1 (within_ok hi2 hg2 s2 ht2 (leaf_ok he np) hC0 (.inr rfl)) hC0 (.inr rfl)) hC0 (.inr rfl) slotNo (I1.with hD) ⟨I1.with hD, x1.trans (ExtP.new hD), [], upd_same, .nil⟩
    (it.keep _ _ _ _ b1 (fun v d r => r.map (With.fresh hD) (Stays.of_same (same_new hD)))) h1 fun H' ds' p' hf => ?_
  obtain ⟨I', x', acc, hA, ra⟩ := p'
  exact q D acc ds' H' x' hD0 hA I'.pen ra hf
end
section
variable {X : Cx}
theorem df_lc3 {elt t0 i0 t1 i1 t2 i2 : Expr} {f0 f1 f2 : List Expr} {scope : Scope} {own : List (Str × Nat)} {v1 v2 : List Nat} {pos : Pos} {w0 w1 w2 : TI} {wI0 wI1 wI2 : WI} {g0 g1 g2 : TG} {wg0 wg1 wg2 : WG} {is0 is1 is2 : List Nat} {c0 c1 c2 : TT} {wt0 wt1 wt2 : WT} {te : TE} {we : WE}
    (hc : X.calm = true) (hN : X.N.Nodup) (hi : DI X t0 i0 w0 wI0) (ok : BlkOk X.N X.env.scope scope own) (h1 : ∀ i ∈ v1, i ∈ own.map (·.2)) (h2 : ∀ i ∈ v2, i ∈ v1) (s0 : ∀ i ∈ is0, i ∈ own.map (·.2)) (s1 : ∀ i ∈ is1, i ∈ v1) (s2 : ∀ i ∈ is2, i ∈ v2)
    (a0 : ∀ (s : Shared) (H : Hp) (C : Addr) (cl : List (Str × Addr)) (fp : List Addr), DG (X.blk s H scope (compEnvC scope cl C X.env) fp) t0 g0 wg0 is0) (b0 : ∀ (s : Shared) (H : Hp) (C : Addr) (cl : List (Str × Addr)) (fp : List Addr), DTs (X.blk s H scope (compEnvC scope cl C X.env) fp) f0 c0 wt0)
    (j1 : ∀ (s : Shared) (H : Hp) (C : Addr) (cl : List (Str × Addr)) (fp : List Addr), DI (X.blk s H scope (compEnvC scope cl C X.env) fp) t1 i1 w1 wI1)
    (a1 : ∀ (s : Shared) (H : Hp) (C : Addr) (cl : List (Str × Addr)) (fp : List Addr), DG (X.blk s H scope (compEnvC scope cl C X.env) fp) t1 g1 wg1 is1) (b1 : ∀ (s : Shared) (H : Hp) (C : Addr) (cl : List (Str × Addr)) (fp : List Addr), DTs (X.blk s H scope (compEnvC scope cl C X.env) fp) f1 c1 wt1)
    (j2 : ∀ (s : Shared) (H : Hp) (C : Addr) (cl : List (Str × Addr)) (fp : List Addr), DI (X.blk s H scope (compEnvC scope cl C X.env) fp) t2 i2 w2 wI2)
    (a2 : ∀ (s : Shared) (H : Hp) (C : Addr) (cl : List (Str × Addr)) (fp : List Addr), DG (X.blk s H scope (compEnvC scope cl C X.env) fp) t2 g2 wg2 is2) (b2 : ∀ (s : Shared) (H : Hp) (C : Addr) (cl : List (Str × Addr)) (fp : List Addr), DTs (X.blk s H scope (compEnvC scope cl C X.env) fp) f2 c2 wt2)
    (he : ∀ (s : Shared) (H : Hp) (C : Addr) (cl : List (Str × Addr)) (fp : List Addr), DE (X.blk s H scope (compEnvC scope cl C X.env) fp) elt te we)
    (k0 : ∀ x, foldedSetIterable i0 X.env x = pure x := by intro _; rfl) (k1 : ∀ env x, foldedSetIterable i1 env x = pure x := by intro _ _; rfl) (k2 : ∀ env x, foldedSetIterable i2 env x = pure x := by intro _ _; rfl) :
    DF X (.ListComp elt [⟨t0, i0, f0, 0⟩, ⟨t1, i1, f1, 0⟩, ⟨t2, i2, f2, 0⟩] scope pos) (tLc3 w0 g0 c0 w1 g1 c1 w2 g2 c2 te (own.map (·.2)) v1 v2) (wLc3 wI0 wg0 wt0 wI1 wg1 wt1 wI2 wg2 wt2 we (own.map (·.2)) v1 v2) :=
  ⟨pe_lc3 hc hN hi.pe ok h1 h2 (fun s H C cl fp => (a0 s H C cl fp).pe) (fun s H C cl fp => (b0 s H C cl fp).pe) (fun s H C cl fp => (j1 s H C cl fp).pe) (fun s H C cl fp => (a1 s H C cl fp).pe) (fun s H C cl fp => (b1 s H C cl fp).pe) (fun s H C cl fp => (j2 s H C cl fp).pe) (fun s H C cl fp => (a2 s H C cl fp).pe) (fun s H C cl fp => (b2 s H C cl fp).pe) (fun s H C cl fp => (he s H C cl fp).pe) k0 k1 k2,
   dft_lc3 hi.dt (a0 X.s_0 (fun _ => none) 0 [] []).dt s0 (b0 X.s_0 (fun _ => none) 0 [] []).dt (j1 X.s_0 (fun _ => none) 0 [] []).dt (a1 X.s_0 (fun _ => none) 0 [] []).dt s1 (b1 X.s_0 (fun _ => none) 0 [] []).dt (j2 X.s_0 (fun _ => none) 0 [] []).dt (a2 X.s_0 (fun _ => none) 0 [] []).dt s2 (b2 X.s_0 (fun _ => none) 0 [] []).dt (he X.s_0 (fun _ => none) 0 [] []).dt⟩
end
end DL
/-! {k: v for ..}, the keys nested tuples of ints -/
namespace CB
open PySem PySem.Spec PyProof.Rows L2 DL
/-- the body that puts into a dict -/
def puts (kx vx : Expr) (D : Addr) (env : Env) (cont : Sem PySem.Fin) : Sem PySem.Fin := do
  (do
    let kv ← eval kx env
    let vv ← holding [kv] (eval vx env)
    standAt { kx.pos with endLine := vx.pos.endLine, endCol := vx.pos.endCol }
    holding [kv, vv] (dictSet D kv vv))
  cont
section
variable {kx vx t0 i0 : Expr} {f0 : List Expr} {scope : Scope} {pos : Pos}
theorem lap_dict (it : Value) (D : Addr) (env : Env) : compTurn (.DictComp kx vx [⟨t0, i0, f0, 0⟩] scope pos) 0 it (.ref D) env = lapOf (.DictComp kx vx [⟨t0, i0, f0, 0⟩] scope pos) 0 t0 f0 i0.pos it (.ref D) env (puts kx vx D env) := rfl
theorem starts_dict : Starts (.DictComp kx vx [⟨t0, i0, f0, 0⟩] scope pos) 0 := fun _ _ _ _ _ _ _ _ a b => codeAny_compStart_dict a b
/-- the dict at D gets a row -/
def PutQ (P : Program) (w : World) (K : PySem.W.Frag) (D : Addr) (N : Hp → Prop) (y z : V) (H : Hp) : Prop := ∃ (M : Addr → Prop) (a : Addr) (d : PyData) (xs : List KRow) (ps : List (PyData × PyData)), y = .ref a ∧ NKey d ∧ Dr K M H (.ref a) d ∧ H D = some (kdO P w D xs) ∧ KRows K M H xs ps ∧ xs.length < sizeLine ∧
  ∀ u, RelV z u → N (upd H D (kdO P w D (storedH xs (nest d) a u)))
theorem leaf_dict {B : Cx} {D : Addr} {tk tv : TE} (hx : B.xe = Nay) (hu : B.A.units + 8 < cLine) (hk : PE B kx tk) (hv : PE B vx tv) {pins : List (Addr × Obj)} {σ0 σ2 : L2.St} {vs : List Nat} {Nx : Hp → Prop} {H : Hp} {s : Shared} (hw : wipe σ2 vs = σ0) (I : Inv B pins σ2 H s)
    (q : tk σ2 H fun y H1 => tv σ2 H1 fun z H2 => PutQ B.prog B.w B.K D Nx y z H2) :
    ∀ c : Code, wpAny (model B.prog B.w) B.A (puts kx vx D B.env (again c)) (fun f s' => f = .again c ∧ ∃ σ3 H', Inv B pins σ3 H' s' ∧ Knows σ0 σ3 ∧ Nx H') Nay s := by
  intro c
  have run := hk.run pins s σ2 H _ I q
  rw [hx] at run
  unfold puts
  refine wpAny_bind (wpAny_bind (thnF run fun kv s1 ⟨y, H1, I1, r1, q1⟩ => ?_))
  have run2 := hv.run pins s1 σ2 H1 _ I1 q1
  rw [hx] at run2
  refine wpAny_bind (wpAny_holding (thnF run2 fun vv s2 ⟨z, H2, I2, r2, M, a, d, xs, ps, e1, hd, ra, hD, rows, hl, nx⟩ => ?_))
  subst e1
  cases r1
  obtain ⟨sm, dk⟩ := rows.dict rfl I2 hD
  have fin : ∀ h', h'.DictOfH (nestedKind B.prog B.w) D (storedH xs (nest d) a vv) → Heap.SameBut D s2.heap h' → Inv B pins σ2 (upd H2 D (kdO B.prog B.w D (storedH xs (nest d) a vv))) { s2 with heap := h', toks := s2.toks + (nestedKind B.prog B.w).draws (nest d) } := fun h' dd sb => by
    obtain ⟨o, es, ep, e1, e2, e3, e4, _, e6⟩ := dd
    exact d_write I2 (by rw [hD]; exact True.intro) sb ⟨o, e1⟩ (kdO_ok e1 e2 e3 e4 e6 sm)
  refine wpAny_bind (wpAny_standAt (wpAny_holding (wpAny_dictSet_heap (knd := nestedKind B.prog B.w) hu (hd.is rfl I2 ra) dk (fun h' dd sb => wpAny_pure ⟨rfl, σ2, _, fin h' dd sb, ?_, nx _ r2⟩) (Nat.le_of_lt hl))))
  rw [← hw]
  exact knows_wipe σ2 vs
def tKc (P : Program) (w : World) (K : PySem.W.Frag) (wi : TI) (g : TG) (tt : TT) (tk tv : TE) (vs : List Nat) : TE := fun σ H Q => wi σ H fun J H1 => ∀ D, H1 D = none → ClauseQ J g tt (wipe σ vs) vs
  (fun σ2 H2 N => tk σ2 H2 fun y H3 => tv σ2 H3 fun z H4 => PutQ P w K D N y z H4) (Q (.ref D)) (upd H1 D (kdO P w D []))
variable {X : Cx}
theorem kc_core {own : List (Str × Nat)} {wi : TI} {g : TG} {tt : TT} {tk tv : TE} {pos' : Pos} {use : Option (Value → Sem Unit)} {Qf : Value → Shared → Prop} {pins : List (Addr × Obj)} {s : Shared} {σ : L2.St} {H : Hp} {Q : VK} (hc : X.calm = true) (hu : X.A.units + 8 < cLine) (hN : X.N.Nodup) (hi : PI X t0 i0 wi) (ok : BlkOk X.N X.env.scope scope own)
    (hg : ∀ (s : Shared) (H : Hp) (C : Addr) (cl : List (Str × Addr)) (fp : List Addr), PG (X.blk s H scope (compEnvC scope cl C X.env) fp) t0 g) (ht : ∀ (s : Shared) (H : Hp) (C : Addr) (cl : List (Str × Addr)) (fp : List Addr), PTs (X.blk s H scope (compEnvC scope cl C X.env) fp) f0 tt)
    (hk : ∀ (s : Shared) (H : Hp) (C : Addr) (cl : List (Str × Addr)) (fp : List Addr), PE (X.blk s H scope (compEnvC scope cl C X.env) fp) kx tk)
    (he : ∀ (s : Shared) (H : Hp) (C : Addr) (cl : List (Str × Addr)) (fp : List Addr), PE (X.blk s H scope (compEnvC scope cl C X.env) fp) vx tv) (hs : ∀ x, foldedSetIterable i0 X.env x = pure x) 
    (I : Inv X pins σ H s) (q : tKc X.prog X.w X.K wi g tt tk tv (own.map (·.2)) σ H Q)
    (hR : ∀ D C s' m H', Inv X pins σ H' s' → Q (.ref D) H' → s'.heap.Ns C m → FpOk X pins H' C → compPost (model X.prog X.w) X.A X.xe use Qf (.ref D) C (.ok .next) s') :
    wpAny (model X.prog X.w) X.A (comprehension (.DictComp kx vx [⟨t0, i0, f0, 0⟩] scope pos) scope X.env pos' newDict false (eval i0 X.env) use) Qf X.xe s := by
  refine block (Q := Q) (e := .DictComp kx vx [⟨t0, i0, f0, 0⟩] scope pos) (ob := { cls := .type "dict", data := .dict #[] }) (u0 := fun D => kdO X.prog X.w D []) hc hN I rfl starts_dict hi ok hs (fun s Q h => wpAny_newObj_type h) ?_ q ?_ hR
  · intro s σ H I
    obtain ⟨o, es, ep, e1, e2, e3, e4, _, e6⟩ := Heap.DictOfH.new (knd := nestedKind X.prog X.w) s.heap
    exact kdO_ok e1 e2 e3 e4 e6 (beq_eq_false_iff_ne.mpr fun z => absurd I.big (by rw [z]; exact Nat.lt_irrefl _))
  · intro s3 s4 H3 ce C cl fp it D tn J ece T cq fixed I4 st hn
    subst ece
    refine clause (B := X.blk s3 H3 scope (compEnvC scope cl C X.env) fp) (ip := i0.pos) hc plain_dict (lap_dict _ _ _) rfl (hg s3 H3 C cl fp) (ht s3 H3 C cl fp) T fixed (fun pl σ2 H4 s5 N hw I5 q5 => ?_) I4 st hn cq
    exact leaf_dict (B := X.blk s3 H3 scope (compEnvC scope cl C X.env) fp) rfl hu (hk s3 H3 C cl fp) (he s3 H3 C cl fp) hw I5 q5
theorem pe_kc {own : List (Str × Nat)} {wi : TI} {g : TG} {tt : TT} {tk tv : TE} (hc : X.calm = true) (hu : X.A.units + 8 < cLine) (hN : X.N.Nodup) (hi : PI X t0 i0 wi) (ok : BlkOk X.N X.env.scope scope own)
    (hg : ∀ (s : Shared) (H : Hp) (C : Addr) (cl : List (Str × Addr)) (fp : List Addr), PG (X.blk s H scope (compEnvC scope cl C X.env) fp) t0 g) (ht : ∀ (s : Shared) (H : Hp) (C : Addr) (cl : List (Str × Addr)) (fp : List Addr), PTs (X.blk s H scope (compEnvC scope cl C X.env) fp) f0 tt)
    (hk : ∀ (s : Shared) (H : Hp) (C : Addr) (cl : List (Str × Addr)) (fp : List Addr), PE (X.blk s H scope (compEnvC scope cl C X.env) fp) kx tk)
    (he : ∀ (s : Shared) (H : Hp) (C : Addr) (cl : List (Str × Addr)) (fp : List Addr), PE (X.blk s H scope (compEnvC scope cl C X.env) fp) vx tv) (hs : ∀ x, foldedSetIterable i0 X.env x = pure x := by intro _; rfl) :
    PE X (.DictComp kx vx [⟨t0, i0, f0, 0⟩] scope pos) (tKc X.prog X.w X.K wi g tt tk tv (own.map (·.2))) := by
  refine ⟨fun pins s σ H Q I q => ?_⟩
  rw [arm_eval_DictComp]
  refine kc_core (Q := Q) hc hu hN hi ok hg ht hk he hs I q fun D C s' m H' I' qq hn f => ⟨m, hn, fun h'' sb => ?_⟩
  obtain ⟨f0, f1, f2, f3, f4, f5⟩ := f
  exact ⟨.ref D, H', I'.turned (t' := s'.toks) (fun b o hb z => (sb.2 b hb).trans z) f0 f1 f3 f4 f5, rfl, qq⟩
/-- y = {..}, y a local name, on one line -/
theorem ps_setKc {i : Nat} {y : Str} {py spos : Pos} {own : List (Str × Nat)} {wi : TI} {g : TG} {tt : TT} {tk tv : TE} (hy : X.N[i]? = some y) (hyl : X.env.scope.names.lookup y = some .local)
    (hsw : swapsWith (.DictComp kx vx [⟨t0, i0, f0, 0⟩] scope pos) (some (.Name y py)) spos.line X.env = pure true) (hc : X.calm = true) (hu : X.A.units + 8 < cLine) (hN : X.N.Nodup) (hi : PI X t0 i0 wi) (ok : BlkOk X.N X.env.scope scope own)
    (hg : ∀ (s : Shared) (H : Hp) (C : Addr) (cl : List (Str × Addr)) (fp : List Addr), PG (X.blk s H scope (compEnvC scope cl C X.env) fp) t0 g) (ht : ∀ (s : Shared) (H : Hp) (C : Addr) (cl : List (Str × Addr)) (fp : List Addr), PTs (X.blk s H scope (compEnvC scope cl C X.env) fp) f0 tt)
    (hk : ∀ (s : Shared) (H : Hp) (C : Addr) (cl : List (Str × Addr)) (fp : List Addr), PE (X.blk s H scope (compEnvC scope cl C X.env) fp) kx tk)
    (he : ∀ (s : Shared) (H : Hp) (C : Addr) (cl : List (Str × Addr)) (fp : List Addr), PE (X.blk s H scope (compEnvC scope cl C X.env) fp) vx tv) (hs : ∀ x, foldedSetIterable i0 X.env x = pure x := by intro _; rfl) :
    PS X (.Assign [.Name y py] (.DictComp kx vx [⟨t0, i0, f0, 0⟩] scope pos) spos) (tAsg (tKc X.prog X.w X.K wi g tt tk tv (own.map (·.2))) (gName i)) := by
  refine ⟨fun pins s σ H D I h => ?_⟩
  rw [exec_Assign_Name_used _ _ _ _ hsw]
  refine wpAny_bind (wpAny_standAt (wpAny_bind ?_))
  show wpAny _ X.A (do let _ ← comprehension (.DictComp kx vx [⟨t0, i0, f0, 0⟩] scope pos) scope X.env (firstIterPos [⟨t0, i0, f0, 0⟩] pos) newDict false (eval i0 X.env) (some (assign (.Name y py) X.env))) _ _ s
  have h : tKc X.prog X.w X.K wi g tt tk tv (own.map (·.2)) σ H (fun x H1 => gName i x σ H1 D.nx) := h
  refine wpAny_bind (thn (kc_core (Qf := fun _ s' => SP X pins D .next s') hc hu hN hi ok hg ht hk he hs I h fun L C s' m H' I' q hn f => ?_) fun _ s' hq => wpAny_pure (wpAny_pure hq))
  show wpAny _ _ (assign (.Name y py) X.env (.ref L)) _ _ _
  refine wpAny_assign_Name (store_ok2 (v := V.ref L) I' hN hy (.inl hyl) rfl (fun s2 I2 ⟨a, sb, ha⟩ => ?_) (.inr hyl))
  obtain ⟨f0, f1, f2, f3, f4, f5⟩ := f
  have haC : C ≠ a := by
    rcases ha with z | z
    · rw [z]; exact f1
    · exact fun e => f4 y a z e.symm
  refine ⟨m, hn.sameBut sb haC, fun h3 sb3 => ?_⟩
  exact ⟨_, H', I2.turned (t' := s2.toks) (fun b o hb e => (sb3.2 b hb).trans e) f0 f1 f3 f4 f5, q⟩
theorem sw_dict {gs : List Comprehension} {py : Pos} {y : Str} {l : Nat} {env : Env} (hk : env.scope.kind = .function) (hy : env.scope.names.lookup y = some .local) (hl : (py.line == pos.line) = true)
    (ha : (scope.names.any fun (n, k) => n == y && (k == .local || k == .cell)) = false) : swapsWith (.DictComp kx vx gs scope pos) (some (.Name y py)) l env = pure true := by
  have ky : env.kindOf y = some .local := hy
  have hb : env.blockKind = .function := by unfold Env.blockKind; rw [hk]; rfl
  unfold swapsWith
  simp only [hb, ky, ha, Expr.pos, hl]
  rfl
end
end CB
/-! dicts whose keys are nested tuples, over data: made, asked, read -/
namespace DL
open PySem PySem.Spec PyProof.Rows L2 CB
def kcW (wg : WG) (wt : WT) (wk wv : WE) (δ : Dl) : List PyData → List (PyData × PyData) → (List (PyData × PyData) → Prop) → Prop
  | [], ps, Φ => Φ ps
  | x :: xs, ps, Φ => wg x δ fun δ2 => wt δ2 fun b => if b = true then wk δ2 fun dk => wv δ2 fun dv => NKey dk ∧ ps.length < sizeLine ∧ kcW wg wt wk wv δ xs (kPut ps dk dv) Φ else kcW wg wt wk wv δ xs ps Φ
abbrev WK := Dl → (List (PyData × PyData) → Prop) → Prop
def wKc (wI : WI) (wg : WG) (wt : WT) (wk wv : WE) (vs : List Nat) : WK := fun δ Φ => wI δ fun items => kcW wg wt wk wv (wipeD δ vs) items [] Φ
/-- the value is a new dict -/
structure DKt (P : Program) (w : World) (K : PySem.W.Frag) (t : TE) (wk : WK) : Prop where
  run : ∀ C M H σ δ Q Φ, Ok K C M H σ δ → wk δ Φ → (∀ a xs ps H', ExtP C.p H H' → PenV K M H' C.p → ¬ M a → H' a = some (kdO P w a xs) → KRows K M H' xs ps → Φ ps → Q (.ref a) H') → t σ H Q
section
variable {P : Program} {w : World} {K : PySem.W.Frag}
theorem det_kc {wi : TI} {wI : WI} {g : TG} {wg : WG} {is vs : List Nat} {tt : TT} {wt : WT} {tk tv : TE} {wk wv : WE} (hi : DIt K wi wI) (hg : DGt K g wg is) (hsub : ∀ i ∈ is, i ∈ vs) (ht : DTt K tt wt) (hk : DEt K tk wk) (hv : DEt K tv wv) :
    DKt P w K (tKc P w K wi g tt tk tv vs) (wKc wI wg wt wk wv vs) := by
  refine ⟨fun C M H σ δ Q Φ I hw q => hi.run C M H σ δ _ _ I hw fun J items B H1 x1 p1 it b1 h1 => ?_⟩
  have I1 := I.next x1 p1
  intro D hD
  have hD0 : H D = none := new_of I x1 p1 hD
  have hC0 : C.H0 D = none := I1.fresh0 hD
  have np : C.p ≠ some D := fun z => by
    obtain ⟨o, e⟩ := I.pH0 _ z
    rw [hC0] at e; cases e
  have slotNo := slot_no I1 hD
  refine ⟨fun i m H' => ∃ kvs kd, Ok K C (With M D) H' σ δ ∧ ExtP C.p H H' ∧ H' D = some (kdO P w D kvs) ∧ KRows K (With M D) H' kvs kd ∧ B (With M D) H' ∧ kcW wg wt wk wv (wipeD δ vs) (items.drop i) kd Φ ∧ m = items.length - i ∧ i ≤ items.length,
    ⟨_, [], [], I1.with hD, x1.trans (ExtP.new hD), upd_same, .nil, it.keep _ _ _ _ b1 (fun v d r => r.map (With.fresh hD) (Stays.of_same (same_new hD))), h1, rfl, Nat.zero_le _⟩, ?_⟩
  rintro i m H' ⟨kvs, kd, I', x', hA, ra, b', h', rfl, hle⟩
  by_cases hlt : i < items.length
  · obtain ⟨d, hd, hdrop⟩ := drop_cons hlt
    rw [hdrop] at h'
    obtain ⟨go, yld⟩ := it.go i (With M D) H' d b' hd
    refine .inr ⟨go, fun H2 => ∃ kvs kd, Ok K C (With M D) H2 σ δ ∧ ExtP C.p H H2 ∧ H2 D = some (kdO P w D kvs) ∧ KRows K (With M D) H2 kvs kd ∧ B (With M D) H2 ∧ kcW wg wt wk wv (wipeD δ vs) (items.drop (i + 1)) kd Φ,
      fun H2 ⟨kvs, kd, a1, a2, a3, a4, a5, a6⟩ => ⟨_, (by omega : items.length - (i + 1) < items.length - i), kvs, kd, a1, a2, a3, a4, a5, a6, rfl, hlt⟩, fun x Hx hy => ?_⟩
    obtain ⟨sm, rx⟩ := yld x Hx hy
    have Ix := I'.same sm
    have bx := it.keep _ _ (With M D) Hx b' (fun v d r => r.stays (Stays.of_same sm))
    have rax := ra.stays (Stays.of_same sm)
    have hAx := sm _ _ hA
    have xx := x'.trans (ExtP.of_same sm)
    refine hg.run C (With M D) Hx (wipe σ vs) (wipeD δ vs) x d _ _ (Ix.wiped vs) rx h' fun σ3 δ3 I3 w3 _ h3 => ?_
    refine ⟨by rw [w3 vs hsub, DL.wipe_twice], ?_⟩
    refine ht.run C (With M D) Hx σ3 δ3 _ _ I3 h3 fun k H4 x4 p4 h4 => ?_
    have I4 := Ix.next x4 p4
    have st4 := x4.stays Ix.pen
    have hA4 := x4 _ _ hAx np
    have b4 := it.keep _ _ (With M D) H4 bx (fun v d r => r.stays st4)
    cases k with
    | false => exact ⟨kvs, kd, I4, xx.trans x4, hA4, rax.stays st4, b4, h4⟩
    | true =>
      refine hk.run C (With M D) H4 σ3 δ3 _ _ (I3.next x4 p4) h4 fun y dy H5 x5 p5 r5 h5 => ?_
      refine hv.run C (With M D) H5 σ3 δ3 _ _ ((I3.next x4 p4).next x5 p5) h5 fun z dz H6 x6 p6 r6 h6 => ?_
      obtain ⟨hn, hz, h7⟩ := h6
      have I5 := I4.next x5 p5
      have I6 := I5.next x6 p6
      have st5 := x5.stays I4.pen
      have st6 := x6.stays I5.pen
      have hA6 := x6 _ _ (x5 _ _ hA4 np) np
      have t6 : Tr K (With M D) H4 (With M D) H6 := fun v d r => (r.stays st5).stays st6
      have ra6 := ((rax.stays st4).stays st5).stays st6
      obtain ⟨r, er⟩ := hn.1
      have r56 := r5.stays st6
      obtain ⟨a, ea⟩ : ∃ a, y = .ref a := by
        rw [er] at r5
        cases r5
        exact ⟨_, rfl⟩
      subst ea
      refine ⟨With M D, a, dy, kvs, kd, rfl, hn, r56, hA6, ra6, by rw [ra6.len]; exact hz, fun u ru => ?_⟩
      obtain ⟨I7, st7⟩ := I6.poke' (o' := kdO P w D (storedH kvs (nest dy) a u)) kdO_mut hC0 (.inr rfl) hA6 slotNo (slot_noD I1 hD)
      refine ⟨_, kPut kd dy dz, I7, ?_, upd_same, (ra6.put hn r56 ru r6).stays st7, it.keep _ _ _ _ b4 (t6.trans fun v d r => r.stays st7), h7⟩
      intro b o e n
      have ne : b ≠ D := fun z => by
        subst z
        rw [hD0] at e; cases e
      rw [upd_ne ne]
      exact x6 _ _ (x5 _ _ (x4 _ _ (xx _ _ e n) n) n) n
  · have e : i = items.length := by omega
    subst e
    rw [List.drop_length] at h'
    refine .inl ⟨it.stop _ H' b', q D kvs kd H' x' ?_ (I.freshM hD0) hA (ra.less fun _ => .inl) h'⟩
    intro z e
    obtain ⟨m, g, s, b, ns, e1, r1, h1, h2⟩ := I'.pen z e
    exact ⟨(I.pen z e).1, g, s, b, ns, e1, r1.less fun _ => .inl, h1, h2⟩
end
structure DK (X : Cx) (e : Expr) (t : TE) (wk : WK) : Prop where
  pe : PE X e t
  dt : DKt X.prog X.w X.K t wk
section
variable {X : Cx} {e o i : Expr} {te to ti ta : TE} {wk : WK} {wo wi' wa : WE} {pos : Pos}
theorem dk_dc {kx vx tg iter : Expr} {ifs : List Expr} {scope : Scope} {own : List (Str × Nat)} {pos : Pos} {wi : TI} {wI : WI} {g : TG} {wg : WG} {is : List Nat} {tt : TT} {wt : WT} {tk tv : TE} {wk wv : WE} (hc : X.calm = true) (hu : X.A.units + 64 < cLine) (hN : X.N.Nodup)
    (hi : DI X tg iter wi wI) (ok : BlkOk X.N X.env.scope scope own) (hsub : ∀ i ∈ is, i ∈ own.map (·.2))
    (hg : ∀ (s : Shared) (H : Hp) (C : Addr) (cl : List (Str × Addr)) (fp : List Addr), DG (X.blk s H scope (compEnvC scope cl C X.env) fp) tg g wg is)
    (ht : ∀ (s : Shared) (H : Hp) (C : Addr) (cl : List (Str × Addr)) (fp : List Addr), DTs (X.blk s H scope (compEnvC scope cl C X.env) fp) ifs tt wt)
    (hk : ∀ (s : Shared) (H : Hp) (C : Addr) (cl : List (Str × Addr)) (fp : List Addr), DE (X.blk s H scope (compEnvC scope cl C X.env) fp) kx tk wk)
    (he : ∀ (s : Shared) (H : Hp) (C : Addr) (cl : List (Str × Addr)) (fp : List Addr), DE (X.blk s H scope (compEnvC scope cl C X.env) fp) vx tv wv)
    (hs : ∀ x, foldedSetIterable iter X.env x = pure x := by intro _; rfl) :
    DK X (.DictComp kx vx [⟨tg, iter, ifs, 0⟩] scope pos) (tKc X.prog X.w X.K wi g tt tk tv (own.map (·.2))) (wKc wI wg wt wk wv (own.map (·.2))) :=
  ⟨pe_kc hc (by omega) hN hi.pe ok (fun s H C cl fp => (hg s H C cl fp).pe) (fun s H C cl fp => (ht s H C cl fp).pe) (fun s H C cl fp => (hk s H C cl fp).pe) (fun s H C cl fp => (he s H C cl fp).pe) hs,
   det_kc hi.dt (hg X.s_0 (fun _ => none) 0 [] []).dt hsub (ht X.s_0 (fun _ => none) 0 [] []).dt (hk X.s_0 (fun _ => none) 0 [] []).dt (he X.s_0 (fun _ => none) 0 [] []).dt⟩
/-- x = the dict -/
def wSetK (P : Program) (w : World) (i : Nat) (wk : WK) : WS := fun Φ δ => wk δ fun ps => i < δ.length ∧ Φ.nx (δ.set i (.kd P w ps))
theorem ds_setK {P : Program} {w : World} {i : Nat} {x : Str} {pos' : Pos} (hN : X.N.Nodup) (hi : X.N[i]? = some x) (hx : Loc X.env.scope x) (he : DK X e te wk) (hs : swapsWith e (some (.Name x pos')) pos.line X.env = pure false := by rfl)
    (hf : X.fn x = true ∨ X.env.scope.names.lookup x = some .local := by first | exact .inl rfl | exact .inr rfl | assumption) (hP : X.prog = P := by rfl) (hW : X.w = w := by rfl) : DS X (.Assign [.Name x pos'] e pos) (tAsg te (gName i)) (wSetK P w i wk) := by
  subst hP
  subst hW
  exact ⟨ps_set hN hi hx he.pe hs hf, ⟨fun C M H σ δ D Φ I hw c => he.dt.run C M H σ δ _ _ I hw fun a xs ps H' x p n ha r q =>
    c.nx M _ _ H' ((I.next x p).put (sv := .kd X.prog X.w ps) (by rw [← I.len]; exact q.1) ⟨a, xs, rfl, n, ha, r⟩ fun _ z => nomatch z) (Tr.of_ext I.pen x) q.2⟩⟩
theorem ds_setKc {P : Program} {w : World} {i : Nat} {y : Str} {py : Pos} {kx vx tg iter : Expr} {ifs : List Expr} {scope : Scope} {own : List (Str × Nat)} {pos spos : Pos} {wi : TI} {wI : WI} {g : TG} {wg : WG} {is : List Nat} {tt : TT} {wt : WT} {tk tv : TE} {wk wv : WE} (hc : X.calm = true) (hu : X.A.units + 64 < cLine) (hN : X.N.Nodup)
    (hy : X.N[i]? = some y) (hyl : X.env.scope.names.lookup y = some .local) (hsw : swapsWith (.DictComp kx vx [⟨tg, iter, ifs, 0⟩] scope pos) (some (.Name y py)) spos.line X.env = pure true)
    (hi : DI X tg iter wi wI) (ok : BlkOk X.N X.env.scope scope own) (hsub : ∀ i ∈ is, i ∈ own.map (·.2))
    (hg : ∀ (s : Shared) (H : Hp) (C : Addr) (cl : List (Str × Addr)) (fp : List Addr), DG (X.blk s H scope (compEnvC scope cl C X.env) fp) tg g wg is)
    (ht : ∀ (s : Shared) (H : Hp) (C : Addr) (cl : List (Str × Addr)) (fp : List Addr), DTs (X.blk s H scope (compEnvC scope cl C X.env) fp) ifs tt wt)
    (hk : ∀ (s : Shared) (H : Hp) (C : Addr) (cl : List (Str × Addr)) (fp : List Addr), DE (X.blk s H scope (compEnvC scope cl C X.env) fp) kx tk wk)
    (he : ∀ (s : Shared) (H : Hp) (C : Addr) (cl : List (Str × Addr)) (fp : List Addr), DE (X.blk s H scope (compEnvC scope cl C X.env) fp) vx tv wv)
    (hs : ∀ x, foldedSetIterable iter X.env x = pure x := by intro _; rfl) (hP : X.prog = P := by rfl) (hW : X.w = w := by rfl) :
    DS X (.Assign [.Name y py] (.DictComp kx vx [⟨tg, iter, ifs, 0⟩] scope pos) spos) (tAsg (tKc X.prog X.w X.K wi g tt tk tv (own.map (·.2))) (gName i)) (wSetK P w i (wKc wI wg wt wk wv (own.map (·.2)))) := by
  subst hP
  subst hW
  exact ⟨ps_setKc hy hyl hsw hc (by omega) hN hi.pe ok (fun s H C cl fp => (hg s H C cl fp).pe) (fun s H C cl fp => (ht s H C cl fp).pe) (fun s H C cl fp => (hk s H C cl fp).pe) (fun s H C cl fp => (he s H C cl fp).pe) hs,
    ⟨fun C M H σ δ D Φ I hw c => (det_kc hi.dt (hg X.s_0 (fun _ => none) 0 [] []).dt hsub (ht X.s_0 (fun _ => none) 0 [] []).dt (hk X.s_0 (fun _ => none) 0 [] []).dt (he X.s_0 (fun _ => none) 0 [] []).dt).run C M H σ δ _ _ I hw fun a xs ps H' x p n ha r q =>
    c.nx M _ _ H' ((I.next x p).put (sv := .kd X.prog X.w ps) (by rw [← I.len]; exact q.1) ⟨a, xs, rfl, n, ha, r⟩ fun _ z => nomatch z) (Tr.of_ext I.pen x) q.2⟩⟩
/-- e in d, e not in d -/
def rKIn (P : Program) (w : World) (K : PySem.W.Frag) (g : Bool → Bool) : R2 := fun x y H Q => ∃ (M : Addr → Prop) (a : Addr) (d : PyData) (D : Addr) (xs : List KRow) (ps : List (PyData × PyData)), x = .ref a ∧ y = .ref D ∧ NKey d ∧ Dr K M H (.ref a) d ∧ H D = some (kdO P w D xs) ∧ KRows K M H xs ps ∧
  Q (.bl (g (ps.any fun p => decide (nest p.1 = nest d)))) H
theorem atKey_pairs (xs : List KRow) (k : NestedKey) : (valueAt (pairsH xs) k).isSome = (atKey xs k).isSome := by rw [valueAt_pairsH, Option.isSome_map]
theorem op_kin (hu : X.A.units + 64 < cLine) : OpR X (compareOp .In) (rKIn X.prog X.w X.K id) := by
  intro pins s σ H x y v u Q I rx ry h
  obtain ⟨M, a, d, D, xs, ps, rfl, rfl, hn, ra, hD, rows, q⟩ := h
  cases rx
  cases ry
  obtain ⟨sm, dd⟩ := rows.dict rfl I hD
  refine in_keyed (knd := nestedKind X.prog X.w) (show X.A.in1.units + 8 < cLine from by show X.A.units + 1 + 8 < cLine; omega) (hn.is rfl I ra) sm ⟨xs, dd, rfl⟩ ⟨_, H, I.tok _, ?_, q⟩
  rw [atKey_pairs, rows.any]
  rfl
theorem op_knotin (hu : X.A.units + 64 < cLine) : OpR X (compareOp .NotIn) (rKIn X.prog X.w X.K fun k => !k) := by
  intro pins s σ H x y v u Q I rx ry h
  obtain ⟨M, a, d, D, xs, ps, rfl, rfl, hn, ra, hD, rows, q⟩ := h
  cases rx
  cases ry
  obtain ⟨sm, dd⟩ := rows.dict rfl I hD
  refine notIn_keyed (knd := nestedKind X.prog X.w) (show X.A.in1.units + 8 < cLine from by show X.A.units + 1 + 8 < cLine; omega) (hn.is rfl I ra) sm ⟨xs, dd, rfl⟩ ⟨_, H, I.tok _, ?_, q⟩
  rw [atKey_pairs, rows.any]
  rfl
def wKIn (P : Program) (w : World) (g : Bool → Bool) (wa : WE) (j : Nat) : WE := fun δ Φ => wa δ fun d => ∃ ps, δ[j]? = some (.kd P w ps) ∧ NKey d ∧ Φ (.bool (g (ps.any fun p => decide (nest p.1 = nest d))))
theorem det_kin {P : Program} {w : World} {K : PySem.W.Frag} {g : Bool → Bool} {j : Nat} (h : DEt K ta wa) : DEt K (tOp (rKIn P w K g) ta (tVar j)) (wKIn P w g wa j) := by
  refine ⟨fun C M H σ δ Q Φ I hw q => h.run C M H σ δ _ _ I hw fun v d H1 x1 p1 r1 w1 => ?_⟩
  obtain ⟨ps, e, hn, hf⟩ := w1
  have I1 := I.next x1 p1
  obtain ⟨D, xs, e1, n1, hD, rows⟩ := I1.slot j _ e
  obtain ⟨r, er⟩ := hn.1
  obtain ⟨a, ea⟩ : ∃ a, v = .ref a := by
    rw [er] at r1
    cases r1
    exact ⟨_, rfl⟩
  subst ea
  exact ⟨_, sAt_some e1, M, a, d, D, xs, ps, rfl, rfl, hn, r1, hD, rows, q _ _ H1 x1 p1 (.bl _) hf⟩
theorem de_kin {P : Program} {w : World} {K' : PySem.W.Frag} {j : Nat} {x : Str} {p1 : Pos} {a : Expr} (hu : X.A.units + 64 < cLine) (ha : DE X a ta wa) (hN : X.N[j]? = some x := by rfl)
    (hv : Vis X.env.scope x := by first | exact Or.inl rfl | exact Or.inr (Or.inl rfl) | exact Or.inr (Or.inr rfl))
    (hd : (x == ("__debug__" : Str)) = false := by decide) (hcd : (x == ("__classdict__" : Str)) = false := by decide) (hm : behindInMarks .In (.Name x p1) = false := by rfl) (hK : X.K = K' := by rfl) (hP : X.prog = P := by rfl) (hW : X.w = w := by rfl) :
    DE X (.Compare a [.In] [.Name x p1] pos) (tOp (rKIn P w K' id) ta (tVar j)) (wKIn P w id wa j) := by
  subst hK
  subst hP
  subst hW
  exact ⟨pe_cmpR (op_kin hu) ha.pe (pe_var hN hv hd hcd) hm, det_kin ha.dt⟩
theorem de_knotIn {P : Program} {w : World} {K' : PySem.W.Frag} {j : Nat} {x : Str} {p1 : Pos} {a : Expr} (hu : X.A.units + 64 < cLine) (ha : DE X a ta wa) (hN : X.N[j]? = some x := by rfl)
    (hv : Vis X.env.scope x := by first | exact Or.inl rfl | exact Or.inr (Or.inl rfl) | exact Or.inr (Or.inr rfl))
    (hd : (x == ("__debug__" : Str)) = false := by decide) (hcd : (x == ("__classdict__" : Str)) = false := by decide) (hm : behindInMarks .NotIn (.Name x p1) = false := by rfl) (hK : X.K = K' := by rfl) (hP : X.prog = P := by rfl) (hW : X.w = w := by rfl) :
    DE X (.Compare a [.NotIn] [.Name x p1] pos) (tOp (rKIn P w K' fun k => !k) ta (tVar j)) (wKIn P w (fun k => !k) wa j) := by
  subst hK
  subst hP
  subst hW
  exact ⟨pe_cmpR (op_knotin hu) ha.pe (pe_var hN hv hd hcd) hm, det_kin ha.dt⟩
/-- d[k] -/
def tKGet (P : Program) (w : World) (K : PySem.W.Frag) (j : Nat) (ti : TE) : TE := fun σ H Q => tVar j σ H fun x H1 => ti σ H1 fun y H2 => ∃ (M : Addr → Prop) (a : Addr) (d z : PyData) (D : Addr) (xs : List KRow) (ps : List (PyData × PyData)), x = .ref D ∧ y = .ref a ∧ NKey d ∧ Dr K M H2 (.ref a) d ∧ H2 D = some (kdO P w D xs) ∧ KRows K M H2 xs ps ∧
  kGet ps d = some z ∧ ∀ v, Dr K M H2 v z → Q v H2
theorem pe_kget {j : Nat} {x : Str} {p1 : Pos} (hu : X.A.units + 64 < cLine) (hv : PE X (.Name x p1) (tVar j)) (hi : PE X i ti) (hs : NoSl i) : PE X (.Subscript (.Name x p1) i pos) (tKGet X.prog X.w X.K j ti) := by
  refine ⟨fun pins s σ H Q I h => ?_⟩
  refine subD_of PySem.F.slot_dict_getitem.lookup hs (thn (hv.run pins s σ H _ I h) fun u s1 ⟨x, H1, I1, rx, q1⟩ => thn (hi.run pins s1 σ H1 _ I1 q1) fun iv s2 ⟨y, H2, I2, ry, M, a, d, z, D, xs, ps, e1, e2, hn, ra, hD, rows, hz, q2⟩ => ?_)
  subst e1
  subst e2
  cases rx
  cases ry
  obtain ⟨sm, dd⟩ := rows.dict rfl I2 hD
  obtain ⟨a', u', v, ek, rv, dv⟩ := rows.get hz
  refine ⟨dd.typeIs, getItem_keyed (knd := nestedKind X.prog X.w) (show X.A.in1.units + 8 < cLine from by show X.A.units + 1 + 8 < cLine; omega) (hn.is rfl I2 ra) ⟨xs, dd, rfl⟩ (by rw [valueAt_pairsH, ek]; rfl) ⟨v, H2, I2.tok _, rv, q2 v dv⟩⟩
def wKGet (P : Program) (w : World) (j : Nat) (wi : WE) : WE := fun δ Φ => ∃ ps, δ[j]? = some (.kd P w ps) ∧ wi δ fun d => ∃ z, NKey d ∧ kGet ps d = some z ∧ Φ z
theorem de_kget {P : Program} {w : World} {K' : PySem.W.Frag} {j : Nat} {x : Str} {p1 : Pos} (hu : X.A.units + 64 < cLine) (hi : DE X i ti wi') (hs : NoSl i := by exact fun _ _ => rfl) (hN : X.N[j]? = some x := by rfl)
    (hv : Vis X.env.scope x := by first | exact Or.inl rfl | exact Or.inr (Or.inl rfl) | exact Or.inr (Or.inr rfl))
    (hd : (x == ("__debug__" : Str)) = false := by decide) (hcd : (x == ("__classdict__" : Str)) = false := by decide) (hK : X.K = K' := by rfl) (hP : X.prog = P := by rfl) (hW : X.w = w := by rfl) :
    DE X (.Subscript (.Name x p1) i pos) (tKGet P w K' j ti) (wKGet P w j wi') := by
  subst hK
  subst hP
  subst hW
  refine ⟨pe_kget hu (pe_var hN hv hd hcd) hi.pe hs, ⟨fun C M H σ δ Q Φ I hw q => ?_⟩⟩
  obtain ⟨ps, e, hw⟩ := hw
  obtain ⟨D, xs, e1, n1, hD, rows⟩ := I.slot j _ e
  refine ⟨_, sAt_some e1, hi.dt.run C M H σ δ _ _ I hw fun v d H1 x1 p1 r1 w1 => ?_⟩
  obtain ⟨z, hn, hz, hf⟩ := w1
  have st := x1.stays I.pen
  obtain ⟨r, er⟩ := hn.1
  obtain ⟨a, ea⟩ : ∃ a, v = .ref a := by
    rw [er] at r1
    cases r1
    exact ⟨_, rfl⟩
  subst ea
  exact ⟨M, a, d, z, D, xs, ps, rfl, rfl, hn, r1, st _ _ hD fun _ => n1, rows.stays st, hz, fun v dv => q _ _ H1 x1 p1 dv hf⟩
end
end DL
/-! sorted(a dict whose keys are nested tuples) -/
namespace DL
open PySem PySem.Spec PyProof.Rows L2 CB ST
open PySem.W (AllAlike Sortable dataLe EachIs KdlSrc)
theorem src_raw {prog : Program} {w : World} {d : Addr} {es : Array DictEntry} {ep : Nat} (xs : List KRow) (lo : (d == sysModules) = false) (hx : ∀ i (hi : i < es.size), ∃ y, xs[i]? = some y ∧ es[i].key = .ref y.2.1 ∧ es[i].val = y.2.2) :
    KdlSrc prog w "dict" d d es.size (fun i v => ∃ y, xs[i]? = some y ∧ v = .ref y.2.1) (fun h => h.DictRaw d es ep) where
  type := fun _ hm => hm.typeIs
  there := fun _ hm => by
    obtain ⟨o, ho, _⟩ := hm
    exact ⟨Heap.lt_size ho, Heap.lt_size ho⟩
  keep := fun _ _ hm hk => hm.at fun o e => hk d (.inl rfl) o e
  notList := by decide
  notTuple := by decide
  hint := fun _ _ _ _ hm hq => PySem.W.kdl_hint_dict hm.typeIs hq
  iter := fun _ s hh hm => ⟨_, _, (fun _ _ hq => wpAny_pyIter_dict_raw lo hm hq), Walks.keysH hh _ d (by
      obtain ⟨o, ho, _⟩ := hm
      exact Nat.ne_of_lt (Heap.lt_size ho)) es ep hx, ⟨⟨_, Heap.get?_push_size _ rfl, rfl, rfl⟩, hm.at fun o e => Heap.get?_push_of_some _ e⟩⟩
theorem KRows.back {K : PySem.W.Frag} {M : Addr → Prop} {H : Hp} : ∀ {xs : List KRow} {ps : List (PyData × PyData)}, KRows K M H xs ps → ∀ y ∈ xs, ∃ p ∈ ps, NKey p.1 ∧ y.1 = nest p.1 ∧ Dr K M H (.ref y.2.1) p.1
  | _, _, .nil => fun _ h => nomatch h
  | _, _, .cons (b := p) r t => fun y hy => by
    rcases List.mem_cons.mp hy with rfl | hy
    · exact ⟨p, List.mem_cons_self, r.1, r.2.1, r.2.2.1⟩
    · obtain ⟨p', hp', z⟩ := KRows.back t y hy
      exact ⟨p', List.mem_cons_of_mem _ hp', z⟩
theorem KRows.forth {K : PySem.W.Frag} {M : Addr → Prop} {H : Hp} : ∀ {xs : List KRow} {ps : List (PyData × PyData)}, KRows K M H xs ps → ps.map (·.1) = xs.map fun y => y.1.data
  | _, _, .nil => rfl
  | _, _, .cons r t => by rw [List.map_cons, List.map_cons, KRows.forth t, r.2.1, nest_data _ r.1.2.1]
/-- what sorted(d) asks of the dict -/
def KOk (ps : List (PyData × PyData)) : Prop := ps.length ≤ 4000 ∧ AllAlike (ps.map (·.1)) ∧ Sortable (ps.map (·.1))
def rSortK (P : Program) (w : World) (K : PySem.W.Frag) : List V → Hp → VK → Prop := fun vs H Q => ∃ (M : Addr → Prop) (D : Addr) (xs : List KRow) (ps : List (PyData × PyData)), vs = [.ref D] ∧ H D = some (kdO P w D xs) ∧ KRows K M H xs ps ∧ KOk ps ∧
  ∀ b ys zs, SortOf (ps.map (·.1)) zs → DrA K M H ys zs → H b = none → Q (.ref b) (upd H b (.lst ys))
section
variable {X : Cx} {pins : List (Addr × Obj)} {σ : L2.St} {H : Hp} {s : Shared} {M : Addr → Prop}
theorem call_sortK (hc : X.calm = true) (hu : X.A.units + 64 < cLine) : CallR X (.builtin "sorted") (rSortK X.prog X.w X.K) := by
  intro pins s σ H vs us Q I rv h
  obtain ⟨M, D, xs, ps, rfl, hD, rows, ⟨k1, k2, k3⟩, q⟩ := h
  rw [Vals.ref1 rv]
  obtain ⟨sm, dd⟩ := rows.dict rfl I hD
  obtain ⟨es, ep, raw, hz, hx⟩ := dd.raw
  have once := kdO_at I.hok hD
  obtain ⟨_, _, _, _, _, _, _, once, _⟩ := once
  have lx := rows.len
  have back := rows.back
  have forth := rows.forth
  refine Calls.call_function_entry kind_sorted plain_sorted entry_sorted (args_sorted1 _) ?_
  unfold Builtin.«sorted»
  refine wpAny_bind (m := checkCount "sorted" 1 1 _) (wpAny_pure ?_)
  refine wpAny_bind (PySem.W.kdu_collect (A := X.A.in1) (src_raw (ep := ep) xs sm fun i hi => by
    obtain ⟨y, h1, h2, h3, _⟩ := hx i hi
    exact ⟨y, h1, h2, h3⟩) (I.ok.hd hc) raw (by rw [hz, lx, sizeLine_eq]; omega) fun h' tk acc hk hacc => ?_)
  have J : Inv X pins σ H { s with heap := h', toks := tk } := I.kept (t' := tk) hk
  have ea : acc.toList = xs.map fun y => Value.ref y.2.1 := by
    apply List.ext_getElem?
    intro i
    have hl : acc.size = xs.length := hacc.1.trans hz
    rcases Nat.lt_or_ge i xs.length with hi | hi
    · have e : acc.toList[i]? = some acc[i] := by rw [Array.getElem?_toList]; simp
      obtain ⟨y, h1, h2⟩ := hacc.2 i acc[i] (by simp)
      rw [e, List.getElem?_map, h1, h2]
      rfl
    · rw [List.getElem?_eq_none (by rw [Array.length_toList]; omega), List.getElem?_eq_none (by rw [List.length_map]; omega)]
  rw [ea]
  refine wpAny_bind (wpAny_newList ?_ (by rw [List.length_map, lx, sizeLine_eq]; omega))
  have list_ : (h'.push { cls := .type "list", data := .seq (xs.map fun y => Value.ref y.2.1).toArray }).get? h'.objs.size = some (seqObj "list" (xs.map fun y => Value.ref y.2.1).toArray 0) := Heap.get?_push_size _ rfl
  have each : EachIs (fun v (y : KRow) => v = Value.ref y.2.1 ∧ y ∈ xs) (xs.map fun y => Value.ref y.2.1) xs := by
    have key : ∀ l : List KRow, (∀ y ∈ l, y ∈ xs) → EachIs (fun v (y : KRow) => v = Value.ref y.2.1 ∧ y ∈ xs) (l.map fun y => Value.ref y.2.1) l := fun l => by
      induction l with
      | nil => intro _; exact .nil
      | cons p l ih => intro h; exact .cons ⟨rfl, h p List.mem_cons_self⟩ (ih fun q hq => h q (List.mem_cons_of_mem _ hq))
    exact key xs fun p hp => hp
  refine wpAny_bind (wpAny_holding (PySem.W.list_sort_data (enc := fun y : KRow => y.1.data) list_ each (each.mono fun v y hv => ?_) (by rw [← forth]; exact k2) (by rw [← forth]; exact k3) (by rw [lx, sizeLine_eq]; omega) (fun y hy => ?_) fun out ho2 eo => ?_))
  · obtain ⟨rfl, hp⟩ := hv
    obtain ⟨p, hp, hn, e, r⟩ := back y hp
    have ed : y.1.data = p.1 := by rw [e]; exact nest_data _ hn.2.1
    obtain ⟨as, r1, r2⟩ := Dr.reads J r (show RelV (.ref y.2.1) (Value.ref y.2.1) from rfl)
    refine ⟨as, ?_, fun z => ?_⟩
    · show Reads _ _ y.1.data as
      rw [ed]
      exact PyProof.Rows.Reads.keeps (fun b o => Heap.get?_push_of_some _) r1
    · obtain ⟨o2, z2, _⟩ := r2 _ z
      exact absurd (J.hok.lt z2) (Nat.lt_irrefl _)
  · obtain ⟨p, hp, hn, e, r⟩ := back y hy
    have ed : y.1.data = p.1 := by rw [e]; exact nest_data _ hn.2.1
    have := hn.2.2
    show X.A.in1.units + 1 + y.1.data.depth < cLine
    rw [ed]
    show X.A.units + 1 + 1 + p.1.depth < cLine
    omega
  · obtain ⟨Z, eZ⟩ : ∃ Z, xs.mergeSort (dataLe false fun y : KRow => y.1.data) = Z := ⟨_, rfl⟩
    rw [eZ] at eo
    have pZ : Z.Perm xs := by
      rw [← eZ]
      exact List.mergeSort_perm ..
    have rowsZ : ∀ (out : List Value) (Z : List KRow), EachIs (fun v (y : KRow) => v = Value.ref y.2.1 ∧ y ∈ xs) out Z → Vals (Z.map fun y => V.ref y.2.1) out := fun out Z z => by
      induction z with
      | nil => exact .nil
      | cons h _ ih =>
        obtain ⟨rfl, _⟩ := h
        exact .cons rfl ih
    have dataZ : ∀ l : List KRow, (∀ y ∈ l, y ∈ xs) → DrA X.K M H (l.map fun y => V.ref y.2.1) (l.map fun y => y.1.data) := fun l => by
      induction l with
      | nil => intro _; exact .nil
      | cons y l ih =>
        intro h
        obtain ⟨p, _, hn, e, r⟩ := back y (h y List.mem_cons_self)
        have ed : y.1.data = p.1 := by rw [e]; exact nest_data _ hn.2.1
        exact .cons (show Dr X.K M H (.ref y.2.1) y.1.data by rw [ed]; exact r) (ih fun q hq => h q (List.mem_cons_of_mem _ hq))
    have up : SortOf (ps.map (·.1)) (Z.map fun y => y.1.data) := by
      refine ⟨fun e => ?_, ?_, ?_⟩
      · rw [(pZ.map _).mem_iff, forth]
      · refine (pZ.map _).nodup_iff.mpr ?_
        have z := once
        rw [List.nodup_iff_pairwise_ne, List.pairwise_map] at z ⊢
        refine z.imp_of_mem fun {p r} hp hr ne e => ?_
        obtain ⟨d, _, n1, e1, _⟩ := back p hp
        obtain ⟨d', _, n2, e2, _⟩ := back r hr
        rw [e1, e2, nest_data _ n1.2.1, nest_data _ n2.2.1] at e
        exact ne (by rw [e1, e2, e])
      · rw [← eZ, List.pairwise_map]
        exact PySem.W.sort_pairwise (PySem.W.sortLe_total _ false _) xs
    obtain ⟨c, hcell⟩ := sortedHeap_at (vs := xs.map fun y => Value.ref y.2.1) (out := out.toArray) list_
    have fresh : H h'.objs.size = none := J.hok.fresh (Nat.le_refl _)
    have lenZ : Z.length = xs.length := pZ.length_eq
    refine wpAny_pure ⟨_, rfl, .ref h'.objs.size, _, J.laid (t' := tk) (o := .lst (Z.map fun y => V.ref y.2.1)) (fun b u e => ?_) (Nat.le_refl _) ⟨by rw [List.length_map, sizeLine_eq]; omega, out, c, rowsZ out Z eo, hcell⟩, rfl, q _ _ _ up (dataZ Z fun p hp => pZ.mem_iff.mp hp) fresh⟩
    have hlt := Heap.lt_size e
    rw [sortedHeap_old (Nat.ne_of_lt hlt) (by rw [size_push']; exact Nat.lt_succ_of_lt hlt)]
    exact Heap.get?_push_of_some _ e
/-- sorted(d), d in slot j -/
def wSortK (P : Program) (w : World) (j : Nat) : WE := fun δ Φ => ∃ ps, δ[j]? = some (.kd P w ps) ∧ KOk ps ∧ ∀ zs, SortOf (ps.map (·.1)) zs → Φ (.list zs)
theorem de_sortK {P : Program} {w : World} {K' : PySem.W.Frag} {j : Nat} {x : Str} {p p1 pos : Pos} (hc : X.calm = true) (hu : X.A.units + 64 < cLine) (hm : X.mg "sorted" = none) (hN : X.N[j]? = some x := by rfl)
    (hv : Vis X.env.scope x := by first | exact Or.inl rfl | exact Or.inr (Or.inl rfl) | exact Or.inr (Or.inr rfl))
    (hd : (x == ("__debug__" : Str)) = false := by decide) (hcd : (x == ("__classdict__" : Str)) = false := by decide) (hg : Gl X "sorted" := by rfl)
    (he : starEach [.Name x p1] X.env = (false, eval (.Name x p1) X.env) :: starEach [] X.env := by rfl) (hpl : (backTo pos (starEach [] X.env)).any (·.1) = false := by rfl) (hK : X.K = K' := by rfl) (hP : X.prog = P := by rfl) (hW : X.w = w := by rfl) :
    DE X (.Call (.Name "sorted" p) [.Name x p1] [] pos) (tCB (rSortK P w K') (tCons (tVar j) tNil)) (wSortK P w j) := by
  subst hK
  subst hP
  subst hW
  refine ⟨pe_callB (call_sortK hc hu) hg hm (by decide +kernel) (pa_cons (pe_var hN hv hd hcd) pa_nil) (he := he) (hpl := hpl), ⟨fun C M H σ δ Q Φ I hw q => ?_⟩⟩
  obtain ⟨ps, e, ok, hf⟩ := hw
  obtain ⟨D, xs, e1, n1, hD, rows⟩ := I.slot j _ e
  refine ⟨_, sAt_some e1, M, D, xs, ps, rfl, hD, rows, ok, fun b ys zs up dr fr => ?_⟩
  exact q _ _ _ (ExtP.new fr) (I.pen.new fr) (.lst (I.freshM fr) upd_same (dr.stays (Stays.of_same (same_new fr)))) (hf zs up)
end
end DL
/-! dict(a list of pairs), the keys nested tuples -/
namespace DL
open PySem PySem.Spec PyProof.Rows L2 CB ST
def kAll (acc ps : List (PyData × PyData)) : List (PyData × PyData) := ps.foldl (fun acc p => kPut acc p.1 p.2) acc
def pairD (p : PyData × PyData) : PyData := .tuple [p.1, p.2]
section
variable {K : PySem.W.Frag} {M : Addr → Prop} {H : Hp}
theorem KRows.putAll : ∀ {rows : List KRow} {ps : List (PyData × PyData)} {xs : List KRow} {acc : List (PyData × PyData)}, KRows K M H rows ps → KRows K M H xs acc → KRows K M H (storedAllH xs rows) (kAll acc ps)
  | _, _, _, _, .nil, r => r
  | _, _, _, _, .cons (a := x) (b := p) h t, r => by
    obtain ⟨h1, h2, h3, v, h4, h5⟩ := h
    have := KRows.putAll t (r.put h1 h3 h4 h5)
    rw [← h2] at this
    exact this
end
section
variable {X : Cx} {pins : List (Addr × Obj)} {σ : L2.St} {H : Hp} {s : Shared} {M : Addr → Prop}
theorem rows_of (I : Inv X pins σ H s) : ∀ {xs : List V} {ps : List (PyData × PyData)} {us : List Value}, DrA X.K M H xs (ps.map pairD) → Vals xs us → (∀ p ∈ ps, NKey p.1) →
    ∃ (rows : List KRow) (Ts : List Addr), us = Ts.map Value.ref ∧ Ts.length = ps.length ∧ KRows X.K M H rows ps ∧ ∀ (j : Nat) (x : KRow), rows[j]? = some x → ∃ b, Ts[j]? = some b ∧ PairAt s.heap b (.ref x.2.1) x.2.2
  | _, [], _, r, rv, _ => by
    cases r
    cases rv
    exact ⟨[], [], rfl, rfl, .nil, fun j x e => by simp at e⟩
  | _, p :: ps, _, r, rv, hn => by
    cases r with
    | cons r1 r2 =>
    cases rv with
    | cons v1 v2 =>
    obtain ⟨rows, Ts, e1, e2, e3, e4⟩ := rows_of I r2 v2 fun q hq => hn q (List.mem_cons_of_mem _ hq)
    have n1 := hn p List.mem_cons_self
    obtain ⟨k, v⟩ := p
    unfold pairD at r1
    cases r1 with
    | @tup a zs _ sq ra =>
    cases ra with
    | @cons y _ _ _ ry ra2 =>
    cases ra2 with
    | @cons z _ _ _ rz ra3 =>
    cases ra3
    cases v1
    obtain ⟨its, rw_, ht, _⟩ := I.tuple sq
    obtain ⟨u1, u2, ei, ru1, ru2⟩ := vals2 rw_
    subst ei
    obtain ⟨r0, er⟩ := n1.1
    obtain ⟨b, eb⟩ : ∃ b, y = .ref b := by
      rw [show k = _ from er] at ry
      cases ry
      exact ⟨_, rfl⟩
    subst eb
    cases ru1
    refine ⟨(nest k, b, u2) :: rows, a :: Ts, by rw [e1]; rfl, by rw [List.length_cons, List.length_cons, e2], .cons ⟨n1, rfl, ry, z, ru2, rz⟩ e3, fun j x e => ?_⟩
    cases j with
    | zero =>
      cases Option.some.inj e
      exact ⟨a, rfl, .inl ht⟩
    | succ j =>
      obtain ⟨b', h1, h2⟩ := e4 j x (by simpa using e)
      exact ⟨b', by simpa using h1, h2⟩
def rDictK (P : Program) (w : World) (K : PySem.W.Frag) : List V → Hp → VK → Prop := fun vs H Q => ∃ (M : Addr → Prop) (l : Addr) (xs : List V) (ps : List (PyData × PyData)), vs = [.ref l] ∧ SqL K H l xs ∧ DrA K M H xs (ps.map pairD) ∧ (∀ p ∈ ps, NKey p.1) ∧
  ∀ D rows, H D = none → KRows K M H rows (kAll [] ps) → Q (.ref D) (upd H D (kdO P w D rows))
theorem call_dictK (hc : X.calm = true) (hu : X.A.units + 64 < cLine) : CallR X (.type "dict") (rDictK X.prog X.w X.K) := by
  intro pins s σ H vs us Q I rv h
  obtain ⟨M, l, xs, ps, rfl, hl, ra, hn, q⟩ := h
  rw [Vals.ref1 rv]
  obtain ⟨its, rv2, pl, hz⟩ := I.list hl
  obtain ⟨rows, Ts, e1, e2, e3, e4⟩ := rows_of I ra rv2 hn
  have len : rows.length = ps.length := e3.len
  obtain ⟨o, n, ho, hcl, hd, hdat⟩ := pl
  have P := PairArg.list (prog := X.prog) (w := X.w) l its.toArray (fun j => Ts.getD j 0) (rows.map fun x => (Value.ref x.2.1, x.2.2))
  refine call_dict_pairsH (knd := nestedKind X.prog X.w) (ps := rows) P (I.ok.hd hc) (show X.A.in1.in1.units + 8 < cLine from by show X.A.units + 1 + 1 + 8 < cLine; omega) ⟨⟨o, n, ho, hcl, hd, hdat⟩, ?_, fun j k v e => ?_⟩ ⟨by rw [List.length_map], fun i key v e => ?_⟩ (fun h' hk x hx => ?_) ?_ fun h' tk dd hk => ?_
  · rw [List.size_toArray, List.length_map, len, ← e2, e1, List.length_map]
  · rw [List.getElem?_map, Option.map_eq_some_iff] at e
    obtain ⟨x, hx, e⟩ := e
    cases e
    obtain ⟨b, h1, h2⟩ := e4 j x hx
    have ej : (fun j => Ts.getD j 0) j = b := by
      show Ts.getD j 0 = b
      rw [List.getD_eq_getElem?_getD, h1]
      rfl
    rw [ej]
    refine ⟨?_, h2⟩
    rw [e1, List.getElem?_toArray, List.getElem?_map, h1]
    rfl
  · have e : (rows.map fun x => (Value.ref x.2.1, x.2.2))[i]? = some (key, v) := e
    rw [List.getElem?_map, Option.map_eq_some_iff] at e
    obtain ⟨x, hx, e⟩ := e
    cases e
    exact ⟨x.1, x.2.1, hx, rfl⟩
  · obtain ⟨p, hp, h1, h2, h3⟩ := e3.back x hx
    have := h1.is rfl I h3
    rw [h2]
    exact (nestedKind_stays (prog := X.prog) (w := X.w)).stays (fun b o vs n e z => hk b o (Nat.ne_of_lt (Heap.lt_size e)) (by simp) e) this
  · rw [List.length_map, len]
    have h3 := ra.length
    rw [List.length_map] at h3
    omega
  · obtain ⟨o, es, ep, d1, d2, d3, d4, _, d6⟩ := dd
    have hm : (s.heap.objs.size == sysModules) = false := beq_eq_false_iff_ne.mpr (Nat.ne_of_gt I.big)
    exact ⟨.ref s.heap.objs.size, _, I.laid (t' := tk) (o := kdO X.prog X.w s.heap.objs.size (storedAllH [] rows)) (fun b o e => hk b o (by simp) e) (Nat.le_refl _) (kdO_ok d1 d2 d3 d4 d6 hm), rfl, q _ _ (I.hok.fresh (Nat.le_refl _)) (e3.putAll .nil)⟩
end
section
variable {X : Cx} {e : Expr} {te : TE} {we : WE} {p pos : Pos}
def wDictK (we : WE) : WK := fun δ Φ => we δ fun d => ∃ ps : List (PyData × PyData), d = .list (ps.map pairD) ∧ (∀ p ∈ ps, NKey p.1) ∧ Φ (kAll [] ps)
theorem dk_pairs (hc : X.calm = true) (hu : X.A.units + 64 < cLine) (hm : X.mg "dict" = none) (ha : DE X e te we) (hg : Gl X "dict" := by rfl)
    (he : starEach [e] X.env = (false, eval e X.env) :: starEach [] X.env := by rfl) (hpl : (backTo pos (starEach [] X.env)).any (·.1) = false := by rfl) :
    DK X (.Call (.Name "dict" p) [e] [] pos) (tCB (rDictK X.prog X.w X.K) (tCons te tNil)) (wDictK we) := by
  refine ⟨pe_callTy (call_dictK hc hu) hg hm (by decide +kernel) (pa_cons ha.pe pa_nil (hs := he)) (he := he) (hpl := hpl), ⟨fun C M H σ δ Q Φ I hw q => ha.dt.run C M H σ δ _ _ I hw fun v d H1 x1 p1 r1 w1 => ?_⟩⟩
  have I1 := I.next x1 p1
  obtain ⟨ps, rfl, hn, hf⟩ := w1
  cases r1 with
  | lst nm hl ra =>
  refine ⟨M, _, _, ps, rfl, SqL.of hl, ra, hn, fun D rows fr rr => ?_⟩
  exact q _ _ _ _ (x1.trans (ExtP.new fr)) (p1.new fr) (I1.freshM fr) upd_same (rr.stays (Stays.of_same (same_new fr))) hf
end
end DL
/-! looks and kinds: all of them; keys; dicts whose keys they are -/
namespace DL
open PySem PySem.Spec PyProof.Rows L2
open PySem.W (AllAlike Sortable dataLe alike alikeAll)
/-! ### nested tuples are equal if they are the same -/
mutual
theorem eqv_key : ∀ (d e : PyData), keyed d = true → keyed e = true → (PyData.eqv d e = true ↔ d = e)
  | .int i, .int j, _, _ => by
    rw [PyData.eqv]
    simp
  | .int i, .tuple ys, _, _ => by
    rw [PyData.eqv]
    simp
    all_goals simp
  | .tuple xs, .int j, _, _ => by
    rw [PyData.eqv]
    simp
    all_goals simp
  | .tuple xs, .tuple ys, h, k => by
    rw [PyData.eqv, eqvA_key xs ys h k]
    simp
  | .none, _, h, _ => (nomatch h)
  | .bool _, _, h, _ => (nomatch h)
  | .str _, _, h, _ => (nomatch h)
  | .list _, _, h, _ => (nomatch h)
  | .dict _, _, h, _ => (nomatch h)
  | .int _, .none, _, h => (nomatch h)
  | .int _, .bool _, _, h => (nomatch h)
  | .int _, .str _, _, h => (nomatch h)
  | .int _, .list _, _, h => (nomatch h)
  | .int _, .dict _, _, h => (nomatch h)
  | .tuple _, .none, _, h => (nomatch h)
  | .tuple _, .bool _, _, h => (nomatch h)
  | .tuple _, .str _, _, h => (nomatch h)
  | .tuple _, .list _, _, h => (nomatch h)
  | .tuple _, .dict _, _, h => (nomatch h)
theorem eqvA_key : ∀ (xs ys : List PyData), keyedA xs = true → keyedA ys = true → (PyData.eqvAll xs ys = true ↔ xs = ys)
  | [], [], _, _ => by simp [PyData.eqvAll]
  | [], _ :: _, _, _ => by simp [PyData.eqvAll]
  | _ :: _, [], _, _ => by simp [PyData.eqvAll]
  | x :: xs, y :: ys, h, k => by
    have h' := Bool.and_eq_true_iff.mp (show (keyed x && keyedA xs) = true from h)
    have k' := Bool.and_eq_true_iff.mp (show (keyed y && keyedA ys) = true from k)
    rw [PyData.eqvAll, Bool.and_eq_true, eqv_key x y h'.1 k'.1, eqvA_key xs ys h'.2 k'.2]
    simp
end
/-! ### dicts -/
theorem NKey.keyed {d : PyData} (h : NKey d) : keyed d = true := h.2.1
theorem kPut_keys {ps : List (PyData × PyData)} {k v : PyData} (hk : NKey k) (hp : ∀ p ∈ ps, NKey p.1) : ∀ e, e ∈ (kPut ps k v).map (·.1) ↔ e ∈ ps.map (·.1) ∨ e = k := by
  intro e
  unfold kPut
  split
  · rename_i h
    have e1 : (ps.map fun p => if nest p.1 = nest k then (p.1, v) else p).map (·.1) = ps.map (·.1) := by
      rw [List.map_map]
      refine List.map_congr_left fun p hp => ?_
      show (if nest p.1 = nest k then (p.1, v) else p).1 = p.1
      split <;> rfl
    rw [e1]
    refine ⟨.inl, fun z => z.elim id fun z => ?_⟩
    subst z
    obtain ⟨p, hp1, hp2⟩ := List.any_eq_true.mp h
    exact List.mem_map.mpr ⟨p, hp1, nest_inj (hp p hp1).keyed hk.keyed (of_decide_eq_true hp2)⟩
  · rw [List.map_append, List.mem_append]
    simp
theorem kPut_all {ps : List (PyData × PyData)} {k v : PyData} {Pv : PyData → Prop} (hk : NKey k) (hv : Pv v) (hp : ∀ p ∈ ps, NKey p.1 ∧ Pv p.2) : ∀ p ∈ kPut ps k v, NKey p.1 ∧ Pv p.2 := by
  intro p h
  unfold kPut at h
  split at h
  · obtain ⟨q, hq, rfl⟩ := List.mem_map.mp h
    split
    · exact ⟨(hp q hq).1, hv⟩
    · exact hp q hq
  · rcases List.mem_append.mp h with h | h
    · exact hp p h
    · rw [List.mem_singleton.mp h]
      exact ⟨hk, hv⟩
theorem kAll_all {Pv : PyData → Prop} : ∀ {ps acc : List (PyData × PyData)}, (∀ p ∈ ps, NKey p.1 ∧ Pv p.2) → (∀ p ∈ acc, NKey p.1 ∧ Pv p.2) → (∀ p ∈ kAll acc ps, NKey p.1 ∧ Pv p.2) ∧ ∀ e, e ∈ (kAll acc ps).map (·.1) ↔ e ∈ acc.map (·.1) ∨ e ∈ ps.map (·.1)
  | [], acc, _, h => ⟨h, fun e => by simp [kAll]⟩
  | p :: ps, acc, hp, h => by
    have h1 := hp p List.mem_cons_self
    obtain ⟨a, b⟩ := kAll_all (ps := ps) (fun q hq => hp q (List.mem_cons_of_mem _ hq)) (kPut_all (v := p.2) h1.1 h1.2 h)
    refine ⟨a, fun e => ?_⟩
    have := b e
    rw [kPut_keys h1.1 fun q hq => (h q hq).1] at this
    rw [List.map_cons, List.mem_cons]
    rw [show kAll acc (p :: ps) = kAll (kPut acc p.1 p.2) ps from rfl, this]
    constructor
    · rintro ((z | z) | z)
      · exact .inl z
      · exact .inr (.inl z)
      · exact .inr (.inr z)
    · rintro (z | z | z)
      · exact .inl (.inl z)
      · exact .inl (.inr z)
      · exact .inr z
theorem kGet_of {Pv : PyData → Prop} {ps : List (PyData × PyData)} (hp : ∀ p ∈ ps, NKey p.1 ∧ Pv p.2) {k : PyData} (hk : k ∈ ps.map (·.1)) : ∃ v, kGet ps k = some v ∧ Pv v := by
  obtain ⟨p, h1, rfl⟩ := List.mem_map.mp hk
  unfold kGet
  cases e : ps.find? fun q => decide (nest q.1 = nest p.1) with
  | none =>
    have := List.find?_eq_none.mp e p h1
    simp at this
  | some q => exact ⟨q.2, rfl, (hp q (List.mem_of_find?_eq_some e)).2⟩
/-- whether a key is there -/
theorem kAny_iff {ps : List (PyData × PyData)} {d : PyData} (hd : NKey d) (hp : ∀ p ∈ ps, NKey p.1) : (ps.any fun p => decide (nest p.1 = nest d)) = true ↔ d ∈ ps.map (·.1) := by
  rw [List.any_eq_true, List.mem_map]
  constructor
  · rintro ⟨p, h1, h2⟩
    exact ⟨p, h1, nest_inj (hp p h1).keyed hd.keyed (of_decide_eq_true h2)⟩
  · rintro ⟨p, h1, rfl⟩
    exact ⟨p, h1, decide_eq_true rfl⟩
theorem eAny_iff {ls : List PyData} {d : PyData} (hd : keyed d = true) (hl : ∀ l ∈ ls, keyed l = true) : (ls.any fun z => PyData.eqv z d) = true ↔ d ∈ ls := by
  rw [List.any_eq_true]
  constructor
  · rintro ⟨p, h1, h2⟩
    rw [← (eqv_key p d (hl p h1) hd).mp h2]
    exact h1
  · intro h
    exact ⟨d, h, (eqv_key d d hd hd).mpr rfl⟩
theorem any_same {ps : List (PyData × PyData)} {ls : List PyData} {d : PyData} (hd : NKey d) (hp : ∀ p ∈ ps, NKey p.1) (hl : ∀ l ∈ ls, keyed l = true) (hm : ∀ e, e ∈ ps.map (·.1) ↔ e ∈ ls) : (ps.any fun p => decide (nest p.1 = nest d)) = ls.any fun z => PyData.eqv z d := by
  rw [Bool.eq_iff_iff, kAny_iff hd hp, eAny_iff hd.keyed hl, hm]
section
variable {wg : WG} {wt : WT} {wk wv : WE} {δ : Dl} {Φ : List (PyData × PyData) → Prop}
/-- a dict comprehension, by what is kept -/
theorem kcW_ind {items : List PyData} (I : Nat → List (PyData × PyData) → Prop) (h0 : I 0 [])
    (step : ∀ i x ps (k : List (PyData × PyData) → Prop), items[i]? = some x → I i ps → (∀ ps', I (i + 1) ps' → k ps') →
      wg x δ fun δ2 => wt δ2 fun b => if b = true then wk δ2 fun dk => wv δ2 fun dv => NKey dk ∧ ps.length < sizeLine ∧ k (kPut ps dk dv) else k ps)
    (hd : ∀ ps, I items.length ps → Φ ps) : kcW wg wt wk wv δ items [] Φ := by
  have key : ∀ (n i : Nat) (ps : List (PyData × PyData)), items.length - i = n → i ≤ items.length → I i ps → kcW wg wt wk wv δ (items.drop i) ps Φ := by
    intro n
    induction n with
    | zero =>
      intro i ps e hi h
      have e2 : i = items.length := by omega
      subst e2
      rw [List.drop_length]
      exact hd ps h
    | succ n ih =>
      intro i ps e hi h
      have hlt : i < items.length := by omega
      rw [List.drop_eq_getElem_cons hlt]
      exact step i _ ps _ (List.getElem?_eq_getElem hlt) h fun ps' h' => ih (i + 1) ps' (by omega) hlt h'
  exact key _ 0 [] rfl (Nat.zero_le _) h0
end
/-- what is kept of such a dict: its keys are the image of what was walked -/
structure KeysOf (f : PyData → PyData) (xs : List PyData) (ps : List (PyData × PyData)) : Prop where
  key : ∀ p ∈ ps, NKey p.1
  mem : ∀ e, e ∈ ps.map (·.1) ↔ e ∈ xs.map f
  len : ps.length ≤ xs.length
theorem KeysOf.nil {f : PyData → PyData} : KeysOf f [] [] := ⟨fun _ h => (nomatch h), fun _ => Iff.rfl, Nat.le_refl _⟩
theorem KeysOf.snoc {f : PyData → PyData} {xs : List PyData} {ps : List (PyData × PyData)} {x v : PyData} (h : KeysOf f xs ps) (hn : NKey (f x)) : KeysOf f (xs ++ [x]) (kPut ps (f x) v) := by
  refine ⟨fun p hp => (kPut_all (Pv := fun _ => True) hn trivial (fun p hp => ⟨h.key p hp, trivial⟩) p hp).1, fun e => ?_, ?_⟩
  · rw [kPut_keys hn h.key, h.mem, List.map_append, List.mem_append]
    simp
  · have := kPut_len ps (f x) v
    have := h.len
    rw [List.length_append, List.length_singleton]
    omega
theorem take_snoc {α : Type} {xs : List α} {i : Nat} {x : α} (h : xs[i]? = some x) : xs.take (i + 1) = xs.take i ++ [x] := by
  rw [List.take_add_one, h]
  rfl
/-! ### sorted once -/
theorem sort_is {ds zs L : List PyData} (S : SortOf ds zs) (mem : ∀ e, e ∈ L ↔ e ∈ ds) (nd : L.Nodup) (up : L.Pairwise fun a b => dataLe false id a b = true) (anti : ∀ a ∈ L, ∀ b ∈ L, dataLe false id a b = true → dataLe false id b a = true → a = b) : zs = L := by
  have pm : zs.Perm L := (List.perm_ext_iff_of_nodup S.once nd).mpr fun e => by rw [S.mem, mem]
  exact List.Perm.eq_of_pairwise (fun a b ha hb h1 h2 => anti a (pm.mem_iff.mp ha) b hb h1 h2) S.le up pm
end DL
/-! all looks, all kinds, what leads down, what a table lacks -/
namespace DL
open PySem PySem.Spec PyProof.Rows L2
open PySem.W (AllAlike Sortable dataLe alike alikeAll)
def unI : PyData → Int
  | .int i => i
  | _ => 0
theorem map_unI (r : List Int) : (r.map PyData.int).map unI = r := by
  rw [List.map_map]
  exact (List.map_congr_left fun x _ => rfl).trans (List.map_id r)
def sts : List (Int × Int) := [(0, 0), (0, 1), (1, 0), (1, 1)]
def everyL (m : Nat) : List PyData := sts.flatMap fun p => (ordersD m).map fun r => lk p.1 p.2 r
def krows (m : Nat) : List (List Int) := if m = 1 then [[0]] else [[0, 0], [0, 1], [1, 0]]
def kdI (s : Int) (r : List Int) : PyData := .tuple [.int s, tupI r]
def kp (m : Nat) : List (Int × List Int) := (krows m).map (fun r => (0, r)) ++ (krows m).map (fun r => (1, r))
def kindsL (m : Nat) : List PyData := (kp m).map fun p => kdI p.1 p.2
def kindL : PyData → PyData
  | .tuple [.int s, _, .tuple ds] => kdI s (ranks ((ds.map unI).take (ds.length / 2)))
  | _ => .none
def downL (i : Nat) : PyData → Bool
  | .tuple [_, _, .tuple ds] => decide ((ds.map unI).getD (ds.length / 2 + i) 0 < (ds.map unI).getD i 0)
  | _ => false
theorem kind_lk (s t : Int) (r : List Int) : kindL (lk s t r) = kdI s (ranks (r.take (r.length / 2))) := by
  show kdI s (ranks (((r.map PyData.int).map unI).take ((r.map PyData.int).length / 2))) = _
  rw [map_unI, List.length_map]
theorem down_lk (i : Nat) (s t : Int) (r : List Int) : downL i (lk s t r) = decide (r.getD (r.length / 2 + i) 0 < r.getD i 0) := by
  show decide (((r.map PyData.int).map unI).getD ((r.map PyData.int).length / 2 + i) 0 < ((r.map PyData.int).map unI).getD i 0) = _
  rw [map_unI, List.length_map]
theorem lk_nkey (s t : Int) (r : List Int) : NKey (lk s t r) := by
  refine ⟨⟨_, rfl⟩, ?_, by rw [lk_depth]; decide⟩
  show (true && (true && (keyedA (r.map .int) && true))) = true
  rw [keyed_ints]
  rfl
theorem IsLk.nkey {m : Nat} {l : PyData} (h : IsLk m l) : NKey l := by
  obtain ⟨s, t, r, rfl, _⟩ := h
  exact lk_nkey s t r
theorem kd_depth (s : Int) (r : List Int) : (kdI s r).depth = 2 := by
  have := or_depth r
  show max 0 (max (tupI r).depth 0) + 1 = 2
  rw [this]
  rfl
theorem kd_nkey (s : Int) (r : List Int) : NKey (kdI s r) := by
  refine ⟨⟨_, rfl⟩, ?_, by rw [kd_depth]; decide⟩
  show (true && (keyedA (r.map .int) && true)) = true
  rw [keyed_ints]
  rfl
theorem every_lk {m : Nat} (hm : m = 1 ∨ m = 2) {l : PyData} (h : l ∈ everyL m) : ∃ s t r, l = lk s t r ∧ (s = 0 ∨ s = 1) ∧ (t = 0 ∨ t = 1) ∧ Row m r ∧ r ∈ ordersD m := by
  obtain ⟨p, hp, h⟩ := List.mem_flatMap.mp h
  obtain ⟨r, hr, rfl⟩ := List.mem_map.mp h
  refine ⟨p.1, p.2, r, rfl, ?_, ?_, (orders_rows hm).1 r hr, hr⟩
  all_goals
    simp only [sts, List.mem_cons, List.not_mem_nil, or_false] at hp
    rcases hp with rfl | rfl | rfl | rfl <;> simp
theorem every_is {m : Nat} (hm : m = 1 ∨ m = 2) {l : PyData} (h : l ∈ everyL m) : IsLk m l := by
  obtain ⟨s, t, r, e, hs, ht, hr, _⟩ := every_lk hm h
  exact ⟨s, t, r, e, hs, ht, hr⟩
theorem lk_every {m : Nat} {s t : Int} {r : List Int} (hs : s = 0 ∨ s = 1) (ht : t = 0 ∨ t = 1) (hr : r ∈ ordersD m) : lk s t r ∈ everyL m := by
  refine List.mem_flatMap.mpr ⟨(s, t), ?_, List.mem_map.mpr ⟨r, hr, rfl⟩⟩
  rcases hs with rfl | rfl <;> rcases ht with rfl | rfl <;> decide
theorem every_len {m : Nat} (hm : m = 1 ∨ m = 2) : (everyL m).length ≤ 300 := by
  have := (orders_rows hm).2
  unfold everyL sts
  simp only [List.flatMap_cons, List.flatMap_nil, List.append_nil, List.length_append, List.length_map]
  omega
theorem rows_back {m : Nat} (hm : m = 1 ∨ m = 2) : ((ordersD m).all fun r => decide (ranks (r.take m) ∈ krows m)) = true := by
  rcases hm with rfl | rfl <;> decide +kernel
theorem rows_forth {m : Nat} (hm : m = 1 ∨ m = 2) : ((krows m).all fun r => (ordersD m).any fun r' => decide (ranks (r'.take m) = r)) = true := by
  rcases hm with rfl | rfl <;> decide +kernel
theorem kind_kp {m : Nat} (hm : m = 1 ∨ m = 2) {s t : Int} {r : List Int} (hs : s = 0 ∨ s = 1) (hr : r ∈ ordersD m) : (s, ranks (r.take m)) ∈ kp m := by
  have := of_decide_eq_true (List.all_eq_true.mp (rows_back hm) r hr)
  unfold kp
  rw [List.mem_append, List.mem_map, List.mem_map]
  rcases hs with rfl | rfl
  · exact .inl ⟨_, this, rfl⟩
  · exact .inr ⟨_, this, rfl⟩
theorem half_of {m : Nat} {r : List Int} (h : Row m r) : r.length / 2 = m := by rw [h.1]; omega
theorem kinds_mem {m : Nat} (hm : m = 1 ∨ m = 2) (e : PyData) : e ∈ kindsL m ↔ e ∈ (everyL m).map kindL := by
  constructor
  · intro h
    obtain ⟨p, hp, rfl⟩ := List.mem_map.mp h
    have key : ∀ s : Int, (s = 0 ∨ s = 1) → ∀ r ∈ krows m, kdI s r ∈ (everyL m).map kindL := fun s hs r hr => by
      obtain ⟨r', h1, h2⟩ := List.any_eq_true.mp (List.all_eq_true.mp (rows_forth hm) r hr)
      have h3 := of_decide_eq_true h2
      refine List.mem_map.mpr ⟨lk s 0 r', lk_every hs (.inl rfl) h1, ?_⟩
      rw [kind_lk, half_of ((orders_rows hm).1 r' h1), h3]
    unfold kp at hp
    rcases List.mem_append.mp hp with hp | hp
    · obtain ⟨r, hr, rfl⟩ := List.mem_map.mp hp
      exact key 0 (.inl rfl) r hr
    · obtain ⟨r, hr, rfl⟩ := List.mem_map.mp hp
      exact key 1 (.inr rfl) r hr
  · intro h
    obtain ⟨l, hl, rfl⟩ := List.mem_map.mp h
    obtain ⟨s, t, r, rfl, hs, ht, hrow, hr⟩ := every_lk hm hl
    rw [kind_lk, half_of hrow]
    exact List.mem_map.mpr ⟨_, kind_kp (t := t) hm hs hr, rfl⟩
theorem kp_small {m : Nat} (hm : m = 1 ∨ m = 2) : ((kp m).all fun p => (decide (p.1 = 0) || decide (p.1 = 1)) && decide (p.2.length ≤ 2) && p.2.all fun i => decide (0 ≤ i ∧ i < 4)) = true := by
  rcases hm with rfl | rfl <;> decide +kernel
theorem kinds_is {m : Nat} (hm : m = 1 ∨ m = 2) {k : PyData} (h : k ∈ kindsL m) : ∃ s r, k = kdI s r ∧ (s = 0 ∨ s = 1) ∧ r.length ≤ 2 ∧ ∀ i ∈ r, 0 ≤ i ∧ i < 4 := by
  obtain ⟨p, hp, rfl⟩ := List.mem_map.mp h
  have := List.all_eq_true.mp (kp_small hm) p hp
  simp only [Bool.and_eq_true, Bool.or_eq_true, decide_eq_true_eq, List.all_eq_true] at this
  exact ⟨p.1, p.2, rfl, this.1.1, this.1.2, this.2⟩
theorem kinds_len {m : Nat} (hm : m = 1 ∨ m = 2) : (kindsL m).length ≤ 6 := by
  unfold kindsL
  rw [List.length_map]
  rcases hm with rfl | rfl <;> decide +kernel
theorem tupI_inj {a b : List Int} (h : tupI a = tupI b) : a = b := by
  have h' : a.map PyData.int = b.map PyData.int := by
    unfold tupI at h
    injection h
  rw [← map_unI a, ← map_unI b, h']
theorem kd_inj {s s' : Int} {a b : List Int} (h : kdI s a = kdI s' b) : s = s' ∧ a = b := by
  unfold kdI at h
  injection h with h
  injection h with h1 h2
  injection h2 with h2 _
  injection h1 with h1
  exact ⟨h1, tupI_inj h2⟩
theorem nodup_map {α β : Type} {f : α → β} (hf : ∀ a b, f a = f b → a = b) : ∀ {l : List α}, l.Nodup → (l.map f).Nodup
  | [], _ => List.nodup_nil
  | a :: l, h => by
    obtain ⟨h1, h2⟩ := List.nodup_cons.mp h
    rw [List.map_cons]
    refine List.nodup_cons.mpr ⟨fun z => ?_, nodup_map hf h2⟩
    obtain ⟨b, hb, e⟩ := List.mem_map.mp z
    exact h1 (hf _ _ e ▸ hb)
theorem kinds_sorted {m : Nat} (hm : m = 1 ∨ m = 2) {ds zs : List PyData} (S : SortOf ds zs) (mem : ∀ e, e ∈ kindsL m ↔ e ∈ ds) : zs = kindsL m := by
  refine sort_is S mem (nodup_map (f := fun p : Int × List Int => kdI p.1 p.2) (fun a b h => Prod.ext (kd_inj h).1 (kd_inj h).2) (by rcases hm with rfl | rfl <;> decide +kernel)) ?_ fun a ha b hb h1 h2 => ?_
  · unfold kindsL
    rw [List.pairwise_map]
    rcases hm with rfl | rfl <;> decide +kernel
  · obtain ⟨p, hp, rfl⟩ := List.mem_map.mp ha
    obtain ⟨q, hq, rfl⟩ := List.mem_map.mp hb
    have key : ((kp m).all fun p => (kp m).all fun q => !(dataLe false id (kdI p.1 p.2) (kdI q.1 q.2) && dataLe false id (kdI q.1 q.2) (kdI p.1 p.2)) || decide (p = q)) = true := by
      rcases hm with rfl | rfl <;> decide +kernel
    have := List.all_eq_true.mp (List.all_eq_true.mp key p hp) q hq
    rw [h1, h2] at this
    simp only [Bool.and_self, Bool.not_true, Bool.false_or, decide_eq_true_eq] at this
    rw [this]
theorem rows_sorted {m : Nat} (hm : m = 1 ∨ m = 2) {zs : List PyData} (S : SortOf ((ordersD m).map fun r => tupI (ranks (r.take m))) zs) : zs = (krows m).map tupI := by
  refine sort_is S (fun e => ?_) (nodup_map (fun a b => tupI_inj) (by rcases hm with rfl | rfl <;> decide +kernel)) ?_ fun a ha b hb h1 h2 => ?_
  · rw [List.mem_map, List.mem_map]
    constructor
    · rintro ⟨r, hr, rfl⟩
      obtain ⟨r', h1, h2⟩ := List.any_eq_true.mp (List.all_eq_true.mp (rows_forth hm) r hr)
      exact ⟨r', h1, by rw [of_decide_eq_true h2]⟩
    · rintro ⟨r, hr, rfl⟩
      exact ⟨_, of_decide_eq_true (List.all_eq_true.mp (rows_back hm) r hr), rfl⟩
  · rw [List.pairwise_map]
    rcases hm with rfl | rfl <;> decide +kernel
  · obtain ⟨p, hp, rfl⟩ := List.mem_map.mp ha
    obtain ⟨q, hq, rfl⟩ := List.mem_map.mp hb
    have key : ((krows m).all fun p => (krows m).all fun q => !(dataLe false id (tupI p) (tupI q) && dataLe false id (tupI q) (tupI p)) || decide (p = q)) = true := by
      rcases hm with rfl | rfl <;> decide +kernel
    have := List.all_eq_true.mp (List.all_eq_true.mp key p hp) q hq
    rw [h1, h2] at this
    simp only [Bool.and_self, Bool.not_true, Bool.false_or, decide_eq_true_eq] at this
    rw [this]
theorem rows_set {m : Nat} (hm : m = 1 ∨ m = 2) : SetOk ((ordersD m).map fun r => tupI (ranks (r.take m))) := by
  refine ⟨?_, fun d hd d' hd' => ?_, .inl fun d hd => ?_, fun d hd => ?_⟩
  · have := (orders_rows hm).2
    rw [List.length_map]
    omega
  · obtain ⟨r, _, rfl⟩ := List.mem_map.mp hd
    obtain ⟨r', _, rfl⟩ := List.mem_map.mp hd'
    exact ints_alike _ _
  · obtain ⟨r, hr, rfl⟩ := List.mem_map.mp hd
    have h1 := (orders_rows hm).1 r hr
    have h2 : (ranks (r.take m)).length = m := by
      rw [ranks_len, List.length_take, h1.1]
      omega
    cases e : ranks (r.take m) with
    | nil =>
      rw [e, List.length_nil] at h2
      omega
    | cons x l => exact ⟨.int x, l.map .int, rfl⟩
  · obtain ⟨r, _, rfl⟩ := List.mem_map.mp hd
    exact ⟨⟨_, rfl⟩, keyed_ints _, by rw [or_depth]; decide⟩
theorem kinds_ok {m : Nat} (hm : m = 1 ∨ m = 2) {ps : List (PyData × PyData)} (hl : ps.length ≤ 300) (mem : ∀ e, e ∈ ps.map (·.1) → e ∈ kindsL m) : KOk ps := by
  refine ⟨by omega, fun d hd d' hd' => ?_, .inl fun d hd => ?_⟩
  · obtain ⟨s, r, rfl, _⟩ := kinds_is hm (mem d hd)
    obtain ⟨s', r', rfl, _⟩ := kinds_is hm (mem d' hd')
    show (true && (alikeAll (r.map .int) (r'.map .int) && true)) = true
    rw [ints_alike]
    rfl
  · obtain ⟨s, r, rfl, _⟩ := kinds_is hm (mem d hd)
    exact ⟨_, _, rfl⟩
def slant (m : Nat) (l : PyData) : Bool := (List.range m).any fun i => downL i l
theorem slant_len {m : Nat} (hm : m = 1 ∨ m = 2) : ((everyL m).filter (slant m)).length ≤ 296 := by
  rcases hm with rfl | rfl <;> decide +kernel
def steepR (m : Nat) : List Int := if m = 1 then [1, 0] else [1, 1, 0, 0]
def steepL (m : Nat) : List PyData := sts.map fun p => lk p.1 p.2 (steepR m)
theorem lk_inj {s t s' t' : Int} {a b : List Int} (h : lk s t a = lk s' t' b) : s = s' ∧ t = t' ∧ a = b := by
  unfold lk at h
  injection h with h
  injection h with h1 h2
  injection h2 with h2 h3
  injection h3 with h3 _
  injection h1 with h1
  injection h2 with h2
  exact ⟨h1, h2, tupI_inj h3⟩
theorem steep_nodup (m : Nat) : (steepL m).Nodup := nodup_map (f := fun p : Int × Int => lk p.1 p.2 (steepR m)) (fun a b h => Prod.ext (lk_inj h).1 (lk_inj h).2.1) (by decide)
theorem steep_in {m : Nat} (hm : m = 1 ∨ m = 2) {u : PyData} (h : u ∈ steepL m) : u ∈ everyL m ∧ ∀ i, i < m → downL i u = true := by
  obtain ⟨p, hp, rfl⟩ := List.mem_map.mp h
  have hr : steepR m ∈ ordersD m := by rcases hm with rfl | rfl <;> decide +kernel
  refine ⟨?_, fun i hi => ?_⟩
  · simp only [sts, List.mem_cons, List.not_mem_nil, or_false] at hp
    rcases hp with rfl | rfl | rfl | rfl <;> exact lk_every (by simp) (by simp) hr
  · rw [down_lk]
    rcases hm with rfl | rfl
    · have : i = 0 := by omega
      subst this
      decide
    · have : i = 0 ∨ i = 1 := by omega
      rcases this with rfl | rfl <;> decide
theorem one_less {α : Type} {U : List α} (nd : U.Nodup) (g : α) : ∃ U' : List α, U'.Nodup ∧ U.length ≤ U'.length + 1 ∧ ∀ u ∈ U', u ∈ U ∧ u ≠ g := by
  by_cases h : g ∈ U
  · obtain ⟨a, b, rfl⟩ := List.append_of_mem h
    have hp : (a ++ g :: b).Perm (g :: (a ++ b)) := List.perm_middle
    obtain ⟨n1, n2⟩ := List.nodup_cons.mp (hp.nodup_iff.mp nd)
    refine ⟨a ++ b, n2, by rw [hp.length_eq, List.length_cons]; exact Nat.le_refl _, fun u hu => ⟨?_, fun z => n1 (z ▸ hu)⟩⟩
    rcases List.mem_append.mp hu with z | z
    · exact List.mem_append_left _ z
    · exact List.mem_append_right _ (List.mem_cons_of_mem _ z)
  · exact ⟨U, nd, Nat.le_succ _, fun u hu => ⟨hu, fun z => h (z ▸ hu)⟩⟩
end DL
/-! orders: ranks of ranks, halves exchanged; looks that are among all looks -/
namespace DL
open PySem PySem.Spec PyProof.Rows L2
theorem rowsD_iff {s k : Nat} {r : List Int} : r ∈ rowsD s k ↔ r.length = k ∧ ∀ x ∈ r, 0 ≤ x ∧ x < s := by
  induction k generalizing r with
  | zero =>
    simp only [rowsD, List.mem_singleton]
    exact ⟨fun h => by subst h; exact ⟨rfl, fun _ h => nomatch h⟩, fun h => List.eq_nil_of_length_eq_zero h.1⟩
  | succ k ih =>
    unfold rowsD
    rw [List.mem_flatMap]
    constructor
    · rintro ⟨q, hq, hr⟩
      obtain ⟨j, hj, rfl⟩ := List.mem_map.mp hr
      have h := ih.mp hq
      rw [List.mem_range] at hj
      refine ⟨by rw [List.length_append, h.1]; rfl, fun x hx => ?_⟩
      rcases List.mem_append.mp hx with hx | hx
      · exact h.2 x hx
      · rw [List.mem_singleton.mp hx]; omega
    · rintro ⟨hl, hb⟩
      have hne : r ≠ [] := fun e => by subst e; simp at hl
      refine ⟨r.dropLast, ih.mpr ⟨by rw [List.length_dropLast]; omega, fun x hx => hb x (List.dropLast_subset r hx)⟩, ?_⟩
      have hb' := hb _ (List.getLast_mem hne)
      refine List.mem_map.mpr ⟨(r.getLast hne).toNat, List.mem_range.mpr (by omega), ?_⟩
      rw [Int.toNat_of_nonneg hb'.1]
      exact List.dropLast_concat_getLast hne
theorem rankOf_mono {ns : List Int} {x y : Int} (hx : x ∈ ns) (hy : y ∈ ns) : rankOf ns x < rankOf ns y ↔ x < y := by
  obtain ⟨i, hi⟩ := List.mem_iff_getElem?.mp (mem_sortD.mpr hx)
  obtain ⟨j, hj⟩ := List.mem_iff_getElem?.mp (mem_sortD.mpr hy)
  rw [rankOf_place hi, rankOf_place hj]
  have up := sortD_up ns
  obtain ⟨hi1, hi2⟩ := List.getElem?_eq_some_iff.mp hi
  obtain ⟨hj1, hj2⟩ := List.getElem?_eq_some_iff.mp hj
  subst hi2 hj2
  constructor
  · intro h
    exact List.pairwise_iff_getElem.mp up i j hi1 hj1 h
  · intro h
    rcases Nat.lt_trichotomy i j with z | z | z
    · exact z
    · subst z; omega
    · have := List.pairwise_iff_getElem.mp up j i hj1 hi1 z
      omega
theorem rankOf_inj {ns : List Int} {x y : Int} (hx : x ∈ ns) (hy : y ∈ ns) (h : rankOf ns x = rankOf ns y) : x = y := by
  have h1 := rankOf_mono hx hy
  have h2 := rankOf_mono hy hx
  omega
/-- all numbers from 0 on, rising -/
theorem sortD_ranks (ns : List Int) : sortD (ranks ns) = (List.range (sortD ns).length).map fun i => ((i : Nat) : Int) := by
  refine up_unique (sortD_up _) ?_ fun k => ?_
  · rw [List.pairwise_map]
    exact List.pairwise_lt_range.imp (fun h => by omega)
  · rw [mem_sortD, List.mem_map]
    unfold ranks
    rw [List.mem_map]
    constructor
    · rintro ⟨x, hx, rfl⟩
      obtain ⟨i, hi⟩ := List.mem_iff_getElem?.mp (mem_sortD.mpr hx)
      exact ⟨i, List.mem_range.mpr (List.getElem?_eq_some_iff.mp hi).1, by rw [rankOf_place hi]⟩
    · rintro ⟨i, hi, rfl⟩
      rw [List.mem_range] at hi
      have e := List.getElem?_eq_getElem hi
      exact ⟨_, mem_sortD.mp (List.getElem_mem hi), by rw [rankOf_place e]⟩
theorem ranks_ranks (ns : List Int) : ranks (ranks ns) = ranks ns := by
  have key : ∀ x ∈ ranks ns, ((rankOf (ranks ns) x : Nat) : Int) = x := by
    intro x hx
    have hm : x ∈ sortD (ranks ns) := mem_sortD.mpr hx
    obtain ⟨i, hi⟩ := List.mem_iff_getElem?.mp hm
    rw [rankOf_place hi]
    rw [sortD_ranks, List.getElem?_map] at hi
    obtain ⟨j, hj, e⟩ := Option.map_eq_some_iff.mp hi
    obtain ⟨hj1, hj2⟩ := List.getElem?_eq_some_iff.mp hj
    rw [List.getElem_range] at hj2
    omega
  conv => lhs; unfold ranks
  exact (List.map_congr_left key).trans (List.map_id' _)
theorem ranks_order {m : Nat} {ns : List Int} (h : ns.length = 2 * m) : ranks ns ∈ ordersD m := by
  unfold ordersD
  rw [List.mem_filter, decide_eq_true_eq, rowsD_iff]
  refine ⟨⟨by rw [ranks_len, h], fun x hx => ?_⟩, ranks_ranks ns⟩
  have := ranks_bound hx
  omega
theorem order_iff {m : Nat} {r : List Int} : r ∈ ordersD m ↔ r.length = 2 * m ∧ ranks r = r := by
  constructor
  · intro h
    unfold ordersD at h
    rw [List.mem_filter, decide_eq_true_eq, rowsD_iff] at h
    exact ⟨h.1.1, h.2⟩
  · rintro ⟨h1, h2⟩
    rw [← h2]
    exact ranks_order h1
theorem order_len {m : Nat} {r : List Int} (h : r ∈ ordersD m) : r.length = 2 * m := (order_iff.mp h).1
theorem order_bound {m : Nat} {r : List Int} (h : r ∈ ordersD m) {x : Int} (hx : x ∈ r) : 0 ≤ x ∧ x < 2 * m := by
  obtain ⟨h1, h2⟩ := order_iff.mp h
  rw [← h2] at hx
  have := ranks_bound hx
  omega
theorem order_row {m : Nat} (hm : m = 1 ∨ m = 2) {r : List Int} (h : r ∈ ordersD m) : Row m r := (orders_rows hm).1 r h
theorem rankOf_congr {ns ms : List Int} (h : ∀ k, k ∈ ns ↔ k ∈ ms) (x : Int) : rankOf ns x = rankOf ms x := by
  unfold rankOf
  congr 1
  refine up_unique (sortD_up _) (sortD_up _) fun k => ?_
  rw [mem_sortD, mem_sortD, List.mem_filter, List.mem_filter, h k]
theorem order_swap {m : Nat} {r : List Int} (h : r ∈ ordersD m) : r.drop m ++ r.take m ∈ ordersD m := by
  obtain ⟨h1, h2⟩ := order_iff.mp h
  refine order_iff.mpr ⟨by rw [List.length_append, List.length_drop, List.length_take, h1]; omega, ?_⟩
  have hmem : ∀ k, k ∈ r.drop m ++ r.take m ↔ k ∈ r := fun k => by
    rw [List.mem_append]
    constructor
    · rintro (z | z)
      · exact List.mem_of_mem_drop z
      · exact List.mem_of_mem_take z
    · intro z
      rw [← List.take_append_drop m r, List.mem_append] at z
      exact z.symm
  have key : ∀ x ∈ r.drop m ++ r.take m, ((rankOf (r.drop m ++ r.take m) x : Nat) : Int) = x := fun x hx => by
    rw [rankOf_congr hmem]
    have hx' := (hmem x).mp hx
    have e : r.map (fun x => ((rankOf r x : Nat) : Int)) = r.map id := by rw [List.map_id]; exact h2
    exact List.map_inj_left.mp e x hx'
  conv => lhs; unfold ranks
  exact (List.map_congr_left key).trans (List.map_id' _)
theorem every_iff {m : Nat} {l : PyData} : l ∈ everyL m ↔ ∃ s t r, l = lk s t r ∧ (s = 0 ∨ s = 1) ∧ (t = 0 ∨ t = 1) ∧ r ∈ ordersD m := by
  constructor
  · intro h
    unfold everyL at h
    obtain ⟨p, hp, hl⟩ := List.mem_flatMap.mp h
    obtain ⟨r, hr, rfl⟩ := List.mem_map.mp hl
    unfold sts at hp
    simp only [List.mem_cons, List.not_mem_nil, or_false] at hp
    rcases hp with rfl | rfl | rfl | rfl
    · exact ⟨0, 0, r, rfl, .inl rfl, .inl rfl, hr⟩
    · exact ⟨0, 1, r, rfl, .inl rfl, .inr rfl, hr⟩
    · exact ⟨1, 0, r, rfl, .inr rfl, .inl rfl, hr⟩
    · exact ⟨1, 1, r, rfl, .inr rfl, .inr rfl, hr⟩
  · rintro ⟨s, t, r, rfl, hs, ht, hr⟩
    exact lk_every hs ht hr
end DL
/-! items by place; visits -/
namespace DL
open PySem PySem.Spec PyProof.Rows L2
theorem ix_at {ds : List PyData} {j : Nat} {y : PyData} (h : ds[j]? = some y) {Φ : PyData → Prop} : fIx (.tuple ds) (.int (j : Nat)) Φ = Φ y := propext ⟨fun ⟨z, e, q⟩ => by
  rw [atI_nat h] at e
  cases e
  exact q, fun q => ⟨y, atI_nat h, q⟩⟩
theorem ix_0 {a : PyData} {r : List PyData} {Φ : PyData → Prop} : fIx (.tuple (a :: r)) (.int 0) Φ = Φ a := ix_at (j := 0) rfl
theorem ix_1 {a b : PyData} {r : List PyData} {Φ : PyData → Prop} : fIx (.tuple (a :: b :: r)) (.int 1) Φ = Φ b := ix_at (j := 1) rfl
theorem ix_2 {a b c : PyData} {r : List PyData} {Φ : PyData → Prop} : fIx (.tuple (a :: b :: c :: r)) (.int 2) Φ = Φ c := ix_at (j := 2) rfl
theorem ixl_at {ds : List PyData} {j : Nat} {y : PyData} (h : ds[j]? = some y) {Φ : PyData → Prop} : fIx (.list ds) (.int (j : Nat)) Φ = Φ y := propext ⟨fun ⟨z, e, q⟩ => by
  rw [atI_nat h] at e
  cases e
  exact q, fun q => ⟨y, atI_nat h, q⟩⟩
theorem ixl_0 {a : PyData} {r : List PyData} {Φ : PyData → Prop} : fIx (.list (a :: r)) (.int 0) Φ = Φ a := ixl_at (j := 0) rfl
theorem atI_last {α : Type} {xs : List α} {x : α} : L2.atI (xs ++ [x]) (-1) = some x := by
  unfold L2.atI
  have e : L2.ixN (xs ++ [x]).length (-1) = some xs.length := by
    unfold L2.ixN
    rw [List.length_append, List.length_singleton]
    rw [if_neg (by decide)]
    first
      | rw [if_pos (by omega)]
      | rw [if_neg (by omega), if_pos (by omega)]
    congr 1
    omega
  rw [e]
  simp
theorem ix_last {ds : List PyData} {d : PyData} {Φ : PyData → Prop} : fIx (.tuple (ds ++ [d])) (.int (-1)) Φ = Φ d := propext ⟨fun ⟨z, e, q⟩ => by
  rw [atI_last] at e
  cases e
  exact q, fun q => ⟨d, atI_last, q⟩⟩
theorem ixl_last {ds : List PyData} {d : PyData} {Φ : PyData → Prop} : fIx (.list (ds ++ [d])) (.int (-1)) Φ = Φ d := propext ⟨fun ⟨z, e, q⟩ => by
  rw [atI_last] at e
  cases e
  exact q, fun q => ⟨d, atI_last, q⟩⟩
theorem last_of {α : Type} {xs : List α} (h : xs ≠ []) : ∃ ys y, xs = ys ++ [y] := ⟨xs.dropLast, xs.getLast h, (List.dropLast_concat_getLast h).symm⟩
end DL
/-! enumerate(tuple) -/
namespace DL
open PySem PySem.Spec PyProof.Rows L2
open AutoSeq1 (wpAny_loadPart')
abbrev titer (t : Addr) : Obj := { cls := .type "tuple_iterator", data := .fields #[.ref t, .int 0 0] }
abbrev enumO (i : Addr) : Obj := { cls := .type "enumerate", data := .fields #[.none, .bool false, .ref i, rawInt 0, .none, .none] }
theorem enum_new (t : Addr) (o : Obj) (vs : Array Value) (hc : o.cls = .type "tuple") (n : Nat) (hd : o.data = .seq vs n) :
    Meets (Builtin.«enumerate.__new__» ⟨[.type "enumerate", .ref t], []⟩) (fun _ R s => s.heap.get? t = some o ∧
      R (.ok (.ret (.ref (s.heap.push (titer t)).objs.size))) { s with heap := (s.heap.push (titer t)).push (enumO s.heap.objs.size) }) := by
  obtain ⟨c, dc, dt, sl⟩ := o
  replace hc : c = .type "tuple" := hc
  replace hd : dt = .seq vs n := hd
  subst hc hd
  refine .of_wp fun prog w A R s h => ?_
  obtain ⟨hp, g, d, tk, os⟩ := s
  obtain ⟨ht, h⟩ := h
  have hsub := sub_enumerate
  have hT : Heap.IsTuple (Shared.heap ⟨hp, g, d, tk, os⟩) t vs := ⟨_, ht, rfl, n, rfl⟩
  wp_walk using wpAny_loadPart' ht
  refine wpAny_stack_any fun st => wpAny_pure ?_
  split
  · rename_i c _ _ _ _ _
    cases (c == Value.type "enumerate")
    all_goals
      wp_walk using wpAny_loadPart' ht, wpAny_pyIter_tuple hT
      exact ⟨_, rfl, h⟩
  · wp_walk using wpAny_loadPart' ht, wpAny_pyIter_tuple hT
    exact ⟨_, rfl, h⟩
section
variable {prog : Program} {w : World} {A : Around} {E : Value → Shared → Prop} {s : Shared}
theorem call_enum {t : Addr} {vs : Array Value} {Q : Value → Shared → Prop} (hT : s.heap.IsTuple t vs)
    (h : ∀ hp, IsEnum hp (s.heap.objs.size + 1) s.heap.objs.size 0 .none → hp.IsTupleIter s.heap.objs.size t 0 → (∀ b o, s.heap.get? b = some o → hp.get? b = some o) → Q (.ref (s.heap.objs.size + 1)) { s with heap := hp }) :
    wpAny (model prog w) A (call (.type "enumerate") [.ref t]) Q E s := by
  obtain ⟨o, ho, hc, n, hd⟩ := hT
  have sz : (s.heap.push (titer t)).objs.size = s.heap.objs.size + 1 := Heap.size_push ..
  have en : IsEnum ((s.heap.push (titer t)).push (enumO s.heap.objs.size)) (s.heap.objs.size + 1) s.heap.objs.size 0 .none := by
    have z := Heap.get?_push_size (s.heap.push (titer t)) (o := enumO s.heap.objs.size) rfl
    rw [sz] at z
    exact z
  have it0 : ((s.heap.push (titer t)).push (enumO s.heap.objs.size)).IsTupleIter s.heap.objs.size t 0 := ⟨_, Heap.get?_push_of_some _ (Heap.get?_push_size _ rfl), rfl, rfl⟩
  refine callType_new F.called_enumerate (by decide) (F.typeCall_enumerate_1 _) (F.newCall_enumerate_1 _) (fun x => F.args_object_init_2 x _) F.entry_enumerate_new (enum_new t o vs hc n hd) ⟨ho, ?_⟩
  rw [sz]
  exact ⟨⟨_, en, rfl⟩, h _ en it0 fun b x e => Heap.get?_push_of_some _ (Heap.get?_push_of_some _ e)⟩
end
/-- the tuple at a, each item in a new pair -/
def Iet (K : PySem.W.Frag) (a : Addr) : It :=
  ⟨fun i H => ∃ (xs : List V) (x : V), SqT K H a xs ∧ xs[i]? = some x, fun i H v H' => ∃ T x, v = .ref T ∧ H T = none ∧ H' = upd H T (.tup [.int (i : Nat), x]) ∧ ∀ xs, SqT K H a xs → xs[i]? = some x, fun i H => ∃ xs : List V, SqT K H a xs ∧ xs.length ≤ i⟩
theorem enum_apart {h : Heap} {e it a : Addr} {c : Int} {old : Value} {vs : Array Value} {i : Nat} (he : IsEnum h e it c old) (hi : h.IsTupleIter it a i) (ht : h.IsTuple a vs) : a ≠ it ∧ e ∉ [it, a] := by
  obtain ⟨o1, e1, c1, _⟩ := hi
  obtain ⟨o2, e2, c2, _⟩ := ht
  have he' : h.get? e = _ := he
  refine ⟨?_, ?_⟩
  · rintro rfl
    rw [e1] at e2
    cases e2
    rw [c1] at c2
    exact absurd c2 (by decide)
  · intro m
    rcases List.mem_cons.mp m with rfl | m
    · rw [e1] at he'
      cases he'
      exact absurd (show Value.type "enumerate" = Value.type "tuple_iterator" from c1) (by decide)
    · rw [List.mem_singleton] at m
      subst m
      rw [e2] at he'
      cases he'
      exact absurd (show Value.type "enumerate" = Value.type "tuple" from c2) (by decide)
/-- at the tuple's end nothing more is drawn -/
theorem draws_end {prog : Program} {w : World} {A : Around} (hh : A.handled = none) (it a : Addr) (vs : Array Value) (i : Nat) (no : vs[i]? = none) :
    Draws prog w A it [it, a] i (fun _ _ => True) (fun j h => j = i ∧ h.IsTupleIter it a i ∧ h.IsTuple a vs) where
  live := fun _ _ st => by
    obtain ⟨o, ho, _⟩ := st.2.1
    exact ⟨o, ho⟩
  frame := fun j h h' st hk => ⟨st.1, st.2.1.at fun o e => hk it (by simp) o e, st.2.2.at fun o e => hk a (by simp) o e⟩
  item := fun j s Q E hj st _ => absurd st.1 (Nat.ne_of_lt hj)
  done := fun s Q E st hE => wpAny_nextOf_tuple_end hh st.2.1 st.2.2 no hE
theorem turn_iet {P : Program} {w : World} {K : PySem.W.Frag} {elts : List Expr} {kk : Nat} {tpos : Pos} (a e it : Addr) :
    Turn P w K (.Tuple elts kk tpos) (Iet K a) [e, it] e (fun i h => (∃ old, IsEnum h e it ((i : Nat) : Int) old) ∧ h.IsTupleIter it a i ∧ e ≠ it) where
  mem := List.mem_cons_self ..
  obj := fun i h st b hb => by
    obtain ⟨⟨old, he⟩, ⟨o, ho, hc, hd⟩, _⟩ := st
    rcases List.mem_cons.mp hb with rfl | hb
    · exact ⟨_, he, fun v q => nomatch q⟩
    · rw [List.mem_singleton] at hb
      subst hb
      exact ⟨o, ho, fun v q => by rw [hd] at q; cases q⟩
  keep := fun i h h' st k => by
    obtain ⟨⟨old, he⟩, hi, ne⟩ := st
    exact ⟨⟨old, k e (List.mem_cons_self ..) _ he⟩, hi.at fun o q => k it (by simp) o q, ne⟩
  item := by
    intro X hP hw hK hc i pins s σ H E I hf st hg
    subst hP hw hK
    obtain ⟨⟨old, he⟩, hit, hne⟩ := st
    obtain ⟨xs, x, hq, hx⟩ := hg
    obtain ⟨its, rv, p, hz⟩ := I.tuple hq
    obtain ⟨u, hu, ru⟩ := rv.get hx
    have p' : s.heap.IsTuple a its.toArray := p
    obtain ⟨d1, d2⟩ := enum_apart he hit p'
    have hel : e < s.heap.objs.size := Heap.lt_size he
    have hil : it < s.heap.objs.size := by
      obtain ⟨_, q, _⟩ := hit
      exact Heap.lt_size q
    have hiu : i < its.toArray.size := by
      have := (List.getElem?_eq_some_iff.mp hu).1
      simpa using this
    refine wpAny_pyNext_enum_itemD (Draws.tuple (show X.A.in1.handled = none from I.ok.hd hc) it a d1 its.toArray) he ⟨hit, p'⟩ hiu hne d2 fun y hp tk hy ho hst hT hsz hk => ?_
    have ey : y = u := by
      have : its.toArray[i]? = some u := by simpa using hu
      rw [this] at hy
      exact (Option.some.inj hy).symm
    subst ey
    refine ⟨_, rfl, wpAny_letOwnedTupleGo_enum (s := { s with heap := hp, toks := tk + 1 }) ho fun hp2 he2 sb => ?_⟩
    have hT2 : hp2.get? s.heap.objs.size = some { cls := .type "tuple", data := .seq #[.int i tk, y] } := (sb.2 _ (Nat.ne_of_gt hel)).trans hT
    have pair : ObjOk X.prog X.w (upd H s.heap.objs.size (.tup [.int (i : Nat), x])) hp2 s.heap.objs.size (.tup [.int (i : Nat), x]) :=
      ⟨show 2 ≤ sizeLine by decide, [.int i tk, y], .cons ⟨_, rfl⟩ (.cons ru .nil), ⟨_, hT2, rfl, _, rfl⟩⟩
    have J : Inv X pins σ (upd H s.heap.objs.size (.tup [.int (i : Nat), x])) { s with heap := hp2, toks := tk + 1 } :=
      I.turnedNew (ch := [e, it]) (fun b ob hb q => (sb.2 b fun z => hb (by simp [z])).trans (hk b ob (fun z => hb (by simp [z])) (fun z => hb (by simp [z])) q)) hf (Nat.le_refl _) pair
    have sucI : ((i + 1 : Nat) : Int) = (i : Int) + 1 := by omega
    refine ⟨.ref s.heap.objs.size, _, J, rfl, ⟨_, x, rfl, I.hok.fresh (Nat.le_refl _), rfl, fun ys hys => by rw [I.tuple_inj hys hq]; exact hx⟩, ⟨⟨y, by rw [sucI]; exact he2⟩, hst.1.at fun o q => (sb.2 it (Ne.symm hne)).trans q, hne⟩, fun b hb => ?_⟩
    have small : b < s.heap.objs.size := by
      rcases List.mem_cons.mp hb with rfl | hb
      · exact hel
      · rw [List.mem_singleton] at hb
        subst hb
        exact hil
    rw [upd_ne (Nat.ne_of_lt small)]
    exact (hf b hb).1
  done := by
    intro X hP hw hK hc i pins s σ H E I hf st hg
    subst hP hw hK
    obtain ⟨⟨old, he⟩, hit, hne⟩ := st
    obtain ⟨xs, hq, hx⟩ := hg
    obtain ⟨its, rv, p, hz⟩ := I.tuple hq
    have p' : s.heap.IsTuple a its.toArray := p
    obtain ⟨d1, d2⟩ := enum_apart he hit p'
    obtain ⟨f0, f1, f2, f3, f4, f5⟩ := hf it (by simp)
    have hl := rv.length
    have no : its.toArray[i]? = none := by
      rw [List.getElem?_toArray, List.getElem?_eq_none_iff]
      omega
    exact wpAny_pyNext_enum_endD (draws_end (show X.A.in1.handled = none from I.ok.hd hc) it a its.toArray i no) he ⟨rfl, hit, p'⟩ fun hp eb => ⟨rfl, I.turned (t' := s.toks) (fun b o hb q => eb b o hb q) f0 f1 f3 f4 f5⟩
  self := fun A i s Q E st h => by
    obtain ⟨⟨_, he⟩, _⟩ := st
    exact wpAny_pyIter_enum he h
def iEnumT (K : PySem.W.Frag) (ta : TA) : TI := fun σ H R => ta σ H fun vs H1 => ∃ (a : Addr) (xs : List V), vs = [.ref a] ∧ SqT K H1 a xs ∧ R (Iet K a) H1
theorem pi_enumT {X : Cx} {e : Expr} {ta : TA} {p pos tpos : Pos} {elts : List Expr} {kk : Nat} (hg : Gl X "enumerate") (hm : X.mg "enumerate" = none) (ha : PA X [e] ta) (hs : starEach [e] X.env = [(false, eval e X.env)] := by rfl) :
    PI X (.Tuple elts kk tpos) (.Call (.Name "enumerate" p) [e] [] pos) (iEnumT X.K ta) := by
  constructor
  intro pins s σ H R I h
  refine Call_ (ld_blt I hg hm boot_enumerate (PyProof.Rows.callWith_type1 (thn (ha.run pos pins s σ H _ I h) fun us s1 hh => ?_) hs rfl))
  obtain ⟨vs, H1, I1, r1, a, xs, rfl, hq, q⟩ := hh
  obtain ⟨u, rfl, ru⟩ := vals1 r1
  obtain rfl : u = Value.ref a := ru
  obtain ⟨its, rv, tp, hz⟩ := I1.tuple hq
  refine call_enum (show s1.heap.IsTuple a its.toArray from tp) fun hp en it0 keep => wpAny_pyIter_enum en ?_
  have J : Inv X pins σ H1 { s1 with heap := hp } := I1.kept (t' := s1.toks) keep
  refine ⟨s1.heap.objs.size + 1, [s1.heap.objs.size + 1, s1.heap.objs.size], _, _, H1, rfl, J, turn_iet a (s1.heap.objs.size + 1) s1.heap.objs.size, ⟨⟨.none, en⟩, it0, Nat.succ_ne_self _⟩, fun b hb => ?_, q⟩
  have big : s1.heap.objs.size ≤ b := by
    rcases List.mem_cons.mp hb with rfl | hb
    · exact Nat.le_succ _
    · rw [List.mem_singleton] at hb
      exact Nat.le_of_eq hb.symm
  exact I1.fpOk big (I1.hok.fresh big)
section
variable {K : PySem.W.Frag}
theorem itd_enumT {a : Addr} {items : List PyData} : ItD K (Iet K a) (enumD items) (fun M H => Dr K M H (.ref a) (.tuple items)) := by
  refine ⟨fun i M H d b e => ?_, fun M H b => ?_, fun M H M' H' b t => t _ _ b⟩
  · cases b with
    | tup ha r =>
    unfold enumD at e
    rw [List.getElem?_map] at e
    obtain ⟨⟨d0, j⟩, hj, rfl⟩ := Option.map_eq_some_iff.mp e
    rw [List.getElem?_zipIdx] at hj
    obtain ⟨d1, h1, h2⟩ := Option.map_eq_some_iff.mp hj
    cases h2
    obtain ⟨v, hv, rv⟩ := r.getD h1
    refine ⟨⟨_, v, ha, hv⟩, fun x H' y => ?_⟩
    obtain ⟨T, z, rfl, nT, rfl, y⟩ := y
    have := y _ ha
    rw [hv] at this
    cases this
    refine ⟨same_new nT, .tup (SqT.of upd_same) (.cons ?_ (.cons (rv.stays (Stays.of_same (same_new nT))) .nil))⟩
    rw [Nat.zero_add]
    exact .int _
  · cases b with
    | tup ha r =>
    refine ⟨_, ha, ?_⟩
    unfold enumD
    rw [List.length_map, List.length_zipIdx, r.length]
    exact Nat.le_refl _
end
section
variable {X : Cx} {e : Expr} {ta : TA} {wa : WA} {p pos : Pos}
theorem di_enumT {K' : PySem.W.Frag} {tpos : Pos} {elts : List Expr} {kk : Nat} (hg : Gl X "enumerate") (hm : X.mg "enumerate" = none) (ha : DA X [e] ta wa) (hs : starEach [e] X.env = [(false, eval e X.env)] := by rfl) (hK : X.K = K' := by rfl) : DI X (.Tuple elts kk tpos) (.Call (.Name "enumerate" p) [e] [] pos) (iEnumT K' ta)
    (fun δ Ψ => wa δ fun svs => match svs with
      | [.d (.tuple ds)] => Ψ (enumD ds)
      | _ => False) := by
  subst hK
  refine ⟨pi_enumT hg hm ha.pe hs, ⟨fun C M H σ δ R Ψ I hw q => ha.dt.run C M H σ δ _ _ I hw fun vs svs H' x p r hd => ?_⟩⟩
  split at hd
  · cases r with
    | cons r1 r =>
    cases r
    have r1' := (show Dr X.K M H' _ (.tuple _) from r1)
    have r1'' := r1'
    cases r1' with
    | tup ha ra => exact ⟨_, _, rfl, ha, q _ _ _ H' x p itd_enumT r1'' hd⟩
  · exact hd.elim
end
end DL
/-! len(set(t)) and max(t), t a tuple of ints -/
namespace DL
open PySem PySem.Spec PyProof.Rows L2
/-- len(set(t)) -/
def tLenSetT (K : PySem.W.Frag) (ta : TE) : TE := fun σ H Q => ta σ H fun x H1 => ∃ (l : Addr) (ns : List Int), x = .ref l ∧ SqT K H1 l (ns.map V.int) ∧ ns.length ≤ 4000 ∧ Q (.int ((sortD ns).length : Nat)) H1
section
variable {X : Cx} {K : PySem.W.Frag} {e : Expr} {te : TE} {we : WE} {p p2 q pos : Pos}
theorem pe_lenSetT (hc : X.calm = true) (hg : Gl X "len") (hm : X.mg "len" = none) (hg2 : Gl X "set") (hm2 : X.mg "set" = none) (ha : PE X e te)
    (na : starEach [e] X.env = (false, eval e X.env) :: starEach [] X.env := by rfl) : PE X (.Call (.Name "len" p) [.Call (.Name "set" p2) [e] [] q] [] pos) (tLenSetT X.K te) := by
  constructor
  intro pins s σ H Q I h
  refine Call_ (ld_blt I hg hm boot_len ?_)
  refine PyProof.Rows.callWith_builtin1 (PyProof.Rows.args_cons ?_ rfl) rfl rfl
  refine Call_ (ld_blt I hg2 hm2 boot_set ?_)
  refine PyProof.Rows.callWith_type1 (PyProof.Rows.args_cons ?_ na) na rfl
  refine thn (ha.run pins s σ H _ I h) ?_
  rintro v s1 ⟨x, H1, I1, r1, l, ns, rfl, hq, hl, q1⟩
  cases r1
  apply PyProof.Rows.args_nil
  obtain ⟨its, r, pl, hz⟩ := I1.tuple hq
  refine call_set_tupI ns (I1.ok.hd hc) (show s1.heap.IsTuple l its.toArray from pl) (by simpa using RZ.intsAre_vals r) (by unfold scanBound; omega) ?_
  intro h' tk c hS hcl hk
  apply PyProof.Rows.args_nil
  obtain ⟨o, es, ep, t, ho, hex, hd, _, nd, hmem, _, hf, hn, _, _⟩ := hS
  have ec : es.size = (sortD ns).length := by
    rw [← Array.length_toList, ← List.length_map (f := keyOf)]
    exact nodup_len nd (up_nodup (sortD_up ns)) fun k => by rw [← hmem k, decide_eq_true_iff, mem_sortD]
  have I2 : Inv X pins σ H1 { s1 with heap := h', toks := tk } := I1.kept (t' := tk) hk
  have small := sortD_len ns
  exact PySem.call_len_set ho hex hd hf (by omega) ⟨.int ((sortD ns).length : Nat), H1, I2.tok _, ⟨_, by rw [ec]⟩, q1⟩
def wLenSetT (we : WE) : WE := fun δ Φ => we δ fun d => ∃ ns : List Int, d = .tuple (ns.map .int) ∧ ns.length ≤ 4000 ∧ Φ (.int ((sortD ns).length : Nat))
theorem de_lenSetT {K' : PySem.W.Frag} (hc : X.calm = true) (hm : X.mg "len" = none) (hm2 : X.mg "set" = none) (ha : DE X e te we) (hg : Gl X "len" := by rfl) (hg2 : Gl X "set" := by rfl)
    (na : starEach [e] X.env = (false, eval e X.env) :: starEach [] X.env := by rfl) (hK : X.K = K' := by rfl) : DE X (.Call (.Name "len" p) [.Call (.Name "set" p2) [e] [] q] [] pos) (tLenSetT K' te) (wLenSetT we) := by
  subst hK
  refine ⟨pe_lenSetT hc hg hm hg2 hm2 ha.pe na, ⟨fun C M H σ δ Q Φ I hw qq => ha.dt.run C M H σ δ _ _ I hw fun v d H1 x1 p1 r1 w1 => ?_⟩⟩
  obtain ⟨ns, rfl, hl, hf⟩ := w1
  cases r1 with
  | tup hq ra =>
  rw [DrA.of_ints ra] at hq
  exact ⟨_, ns, rfl, hq, hl, qq _ _ H1 x1 p1 (.int _) hf⟩
end
/-- max(t) -/
def rMaxT (K : PySem.W.Frag) : List V → Hp → VK → Prop := fun vs H Q => ∃ (a : Addr) (ns : List Int), vs = [.ref a] ∧ SqT K H a (ns.map V.int) ∧ 0 < ns.length ∧ ∀ m, m ∈ ns → (∀ y ∈ ns, y ≤ m) → Q (.int m) H
theorem call_maxT {X : Cx} (hc : X.calm = true) : CallR X (.builtin "max") (rMaxT X.K) := by
  intro pins s σ H vs us Q I r h
  obtain ⟨a, ns, rfl, hs, hne, q⟩ := h
  obtain ⟨its, rv, hl, _⟩ := I.tuple hs
  rw [Vals.ref1 r]
  have ia := RZ.intsAre_vals rv
  have hz : its.toArray.size = ns.length := by rw [List.size_toArray]; exact IntsAre.length ia
  have hlt : a < s.heap.objs.size := by obtain ⟨_, z, _⟩ := hl; exact Heap.lt_size z
  have val : ∀ (i : Nat) (v : Value), its.toArray[i]? = some v → ∃ t, v = .int (ns.getD i 0) t := fun i v hv => IntsAre.int_at ia i v (by simpa using hv)
  refine call_max_walk (wpAny_pyIter_tuple hl ⟨_, _, _, _, _, _, _, rfl, Walks.tuple (A := X.A.in1) (I.ok.hd hc) _ a (Nat.ne_of_lt hlt) its.toArray, ⟨⟨_, Heap.get?_push_size _ rfl, rfl, rfl⟩, hl.push _⟩, fun b hb => ?_, by rw [hz]; exact hne, CmpOf.ints_gt (fun i => ns.getD i 0) val, fun v h' tk hP hk => ?_⟩)
  · show b < (s.heap.push _).objs.size
    rw [Heap.size_push]
    simp only [List.mem_cons, List.not_mem_nil, or_false] at hb
    rcases hb with e | e
    · rw [e]; exact Nat.lt_succ_self _
    · rw [e]; exact Nat.lt_succ_of_lt hlt
  · obtain ⟨t, rfl⟩ := val _ v hP
    obtain ⟨h1, h2⟩ := argBest_gt (fun i => ns.getD i 0) (its.toArray.size - 1)
    refine ⟨.int _, H, I.kept (t' := tk) (fun b o e => ?_), ⟨_, rfl⟩, q _ ?_ fun y hy => ?_⟩
    · refine hk b o (fun z => ?_) (Heap.get?_push_of_some _ e)
      simp only [List.mem_singleton] at z
      exact absurd (z ▸ Heap.lt_size e) (Nat.lt_irrefl _)
    · exact PySem.getD_mem (by omega)
    · obtain ⟨j, hj, rfl⟩ := PySem.mem_getD hy
      exact h2 j (by omega)
def fMaxT (d : PyData) (Φ : PyData → Prop) : Prop := ∃ ns : List Int, d = .tuple (ns.map .int) ∧ 0 < ns.length ∧ ∀ m, m ∈ ns → (∀ y ∈ ns, y ≤ m) → Φ (.int m)
theorem cd_maxT {K : PySem.W.Frag} : CallD K (rMaxT K) (f1 fMaxT) := by
  refine ⟨fun M H vs svs Q Φ p pv al r hf q => ?_⟩
  replace hf := f1_out hf
  obtain ⟨d, rfl, ns, rfl, hn, hf⟩ := hf
  replace r := args1 r
  obtain ⟨v, rfl, r⟩ := r
  cases r with
  | tup ha ra =>
  rw [DrA.of_ints ra] at ha
  exact ⟨_, ns, rfl, ha, hn, fun m h1 h2 => q _ _ H (Same.refl H) (.int _) (hf m h1 h2)⟩
theorem de_maxT {X : Cx} {e : Expr} {t : TA} {wa : WA} {p pos : Pos} {K' : PySem.W.Frag} (hc : X.calm = true) (hm : X.mg "max" = none) (ha : DA X [e] t wa) (hg : Gl X "max" := by rfl)
    (he : starEach [e] X.env = (false, eval e X.env) :: starEach [] X.env := by rfl) (hpl : (backTo pos (starEach [] X.env)).any (·.1) = false := by rfl) (hK : X.K = K' := by rfl) :
    DE X (.Call (.Name "max" p) [e] [] pos) (tCB (rMaxT K') t) (wCall (f1 fMaxT) wa) := by
  subst hK
  exact de_cb (call_maxT hc) cd_maxT hg hm (by decide +kernel) ha (he := he) (hpl := hpl)
end DL
/-! len(script), and the law's entry where the script is asked for its length -/
namespace DL
open PySem PySem.Spec PyProof.Rows L2
theorem Ok.lenOf {K : PySem.W.Frag} {C : Ct} {M : Addr → Prop} {H : Hp} {σ : Sl} {δ : Dl} (I : Ok K C M H σ δ) {i n : Nat} (e : δ[i]? = some (.lenL n)) : ∃ a xs, sAt σ i = some (.ref a) ∧ xs.length = n ∧ SqL K H a xs := by
  obtain ⟨a, xs, e1, e2, h⟩ := I.slot i _ e
  refine ⟨a, xs, e1, e2, ?_⟩
  rcases h with ⟨u, h0, np⟩ | h
  · exact .inl (.inr ⟨u, I.ext a _ h0 np⟩)
  · rcases h with (h | ⟨_, h⟩) | h
    · cases h
    · cases h
    · exact .inr h
def wLenL (i : Nat) : WE := fun δ Φ => match δ[i]? with
  | some (.lenL n) => Φ (.int (n : Nat))
  | _ => False
section
variable {X : Cx} {pos p p2 : Pos}
theorem de_lenL {K' : PySem.W.Frag} (i : Nat) {x : Str} (hm : X.mg "len" = none) (ha : PA X [.Name x p2] (tCons (tVar i) tNil)) (hg : Gl X "len" := by rfl)
    (he : starEach [.Name x p2] X.env = (false, eval (.Name x p2) X.env) :: starEach [] X.env := by rfl) (hpl : (backTo pos (starEach [] X.env)).any (·.1) = false := by rfl) (hK : X.K = K' := by rfl) :
    DE X (.Call (.Name "len" p) [.Name x p2] [] pos) (tCB (fun xs H Q => ∃ x n, xs = [x] ∧ LenV K' x H n ∧ Q (.int n) H) (tCons (tVar i) tNil)) (wLenL i) := by
  subst hK
  refine ⟨pe_callB call_len hg hm boot_len ha (he := he) (hpl := hpl), ⟨fun C M H σ δ Q Φ I hw q => ?_⟩⟩
  unfold wLenL at hw
  split at hw
  · rename_i n e
    obtain ⟨a, xs, e1, e2, h⟩ := I.lenOf e
    exact ⟨_, sAt_some e1, _, _, rfl, .inl ⟨xs, h, e2.symm⟩, q _ _ H ExtP.refl I.pen (.int _) hw⟩
  · exact hw.elim
end
/-- the law's own promise, its script one that stands frozen -/
def spLawL (K : PySem.W.Frag) : Sp := fun vs H Q _ => ∃ (a : Addr) (ns : List Int), vs = [.ref a] ∧ ns.length ≤ 63 ∧ ((∃ u, H a = some (.frz u (.lst (ns.map V.int)))) ∨ SqL K (fun _ => none) a (ns.map V.int)) ∧ ∀ H', Q (.bl true) H'
theorem spLawL.sq {K : PySem.W.Frag} {H : Hp} {a : Addr} {xs : List V} (h : (∃ u, H a = some (.frz u (.lst xs))) ∨ SqL K (fun _ => none) a xs) : SqL K H a xs := by
  rcases h with ⟨u, h⟩ | h
  · exact .inl (.inr ⟨u, h⟩)
  · rcases h with (h | ⟨_, h⟩) | h
    · cases h
    · cases h
    · exact .inr h
theorem spLawL.of {K : PySem.W.Frag} {H : Hp} {a : Addr} {xs : List V} (o : Only H) (h : SqL K H a xs) : (∃ u, H a = some (.frz u (.lst xs))) ∨ SqL K (fun _ => none) a xs := by
  rcases h with (h | ⟨u, h⟩) | h
  · rcases o a with z | ⟨u, ys, z⟩ <;> rw [h] at z <;> cases z
  · exact .inl ⟨u, h⟩
  · exact .inr (.inr h)
theorem first_slots {n i : Nat} {sv s0 : SV} (h : ([s0, SV.pen] ++ List.replicate n SV.un)[i]? = some sv) : (i = 0 ∧ sv = s0) ∨ (i = 1 ∧ sv = .pen) ∨ sv = .un := by
  rcases i with _ | _ | i
  · exact .inl ⟨rfl, (Option.some.inj h).symm⟩
  · exact .inr (.inl ⟨rfl, (Option.some.inj h).symm⟩)
  · refine .inr (.inr ?_)
    have z : (List.replicate n SV.un)[i]? = some sv := h
    exact (List.mem_replicate.mp (List.mem_of_getElem? z)).2
theorem pen_runL {K : PySem.W.Frag} {t : TS} {wb : WS} {N : List Str} (R : DSt K t wb) (hN : 2 ≤ N.length) {H H' : Hp} {p g a : Addr} {ns xs : List Int} (fr : H p = none) (sm : Same H H') (hs : (∃ u, H a = some (.frz u (.lst (xs.map V.int)))) ∨ SqL K (fun _ => none) a (xs.map V.int))
    (hp : H' p = some (.lst [.ref g, .int 0, .int 0])) (hg : H' g = some (.lst (ns.map V.int))) (ne : g ≠ p) {D : Ends} (hrt : ∀ H', D.rt (.bl true) H')
    (hw : wb { nx := fun _ => False, rt := fun d => d = .bool true } ([.lenL xs.length, .pen] ++ List.replicate (N.length - 2) .un)) : t D ((L2.start N [.ref a]).set 1 (some (.ref p))) H' := by
  have wide : (L2.start N [.ref a]).length = N.length := by
    unfold L2.start
    rw [List.length_append, List.length_replicate, List.length_map]
    show 1 + (N.length - 1) = N.length
    omega
  refine R.run ⟨fun b => b = p, some p, H'⟩ (fun b => b = p) H' _ _ D _ ⟨?_, ?_, ?_, ExtP.refl, fun _ h => h, ?_, ?_, ?_, ?_⟩ hw ⟨fun _ _ _ _ _ _ z => z.elim, fun _ _ _ _ _ _ z => z.elim, fun _ _ _ _ _ _ z => z.elim, fun M' σ' δ' H2 v d I tr r q => ?_⟩
  · rw [List.length_append, List.length_replicate, List.length_set, wide]
    show 2 + (N.length - 2) = N.length
    omega
  · intro i sv e
    rcases first_slots e with ⟨rfl, rfl⟩ | ⟨rfl, rfl⟩ | rfl
    · refine ⟨a, xs.map V.int, rfl, List.length_map .., ?_⟩
      rcases hs with ⟨u, hs⟩ | hs
      · refine .inl ⟨u, sm _ _ hs, fun z => ?_⟩
        cases z
        rw [fr] at hs
        cases hs
      · exact .inr hs
    · refine ⟨p, rfl, ?_⟩
      unfold sAt
      rw [List.getElem?_set_self (by rw [wide]; omega)]
      rfl
    · trivial
  · intro i j b ds es e
    rcases first_slots e with ⟨_, z⟩ | ⟨_, z⟩ | z <;> cases z
  · intro b hb
    exact ⟨_, by rw [show b = p from hb]; exact hp⟩
  · intro q e
    cases e
    exact ⟨rfl, g, 0, 0, ns, hp, .lst ne hg (DrA.ints ns), by decide, by decide⟩
  · intro q e
    cases e
    exact ⟨_, hp⟩
  · intro b hb
    exact ⟨_, by rw [show b = p from hb]; exact hp⟩
  · have q' : d = .bool true := q
    subst q'
    cases r
    exact hrt H2
end DL
/-! a dict of one's own, its keys ints and texts: made, stored into, read, told to be done; a module's whole number -/
namespace DL
open PySem PySem.Spec PyProof.Rows L2
section
variable {K : PySem.W.Frag} {C : Ct} {M : Addr → Prop} {H : Hp} {σ : Sl} {δ : Dl}
/-- only slot i holds a dict of one's own -/
def OnlyD (i : Nat) (δ : Dl) : Prop := ∀ j kd, δ[j]? = some (.ownD kd) → j = i
/-- a dict of one's own in slot i is changed -/
theorem Ok.writeD (I : Ok K C M H σ δ) {i : Nat} {a : Addr} {kvs kvs' : List (Key × V)} {kd kd' : List (Key × PyData)} (hd : δ[i]? = some (.ownD kd)) (only : OnlyD i δ) (hs : sAt σ i = some (.ref a)) (h0 : C.H0 a = none) (m : M a) (ha : H a = some (.dK kvs)) (r : DrK K M H kvs' kd') :
    Ok K C M (upd H a (.dK kvs')) σ (δ.set i (.ownD kd')) ∧ Tr K M H M (upd H a (.dK kvs')) := by
  have st : Stays M H (upd H a (.dK kvs')) := fun b o e n => by
    by_cases z : b = a
    · subst z
      rw [ha] at e; cases e
      exact absurd m (n rfl)
    · rw [upd_ne z]; exact e
  have np : C.p ≠ some a := fun z => by
    obtain ⟨o, e⟩ := I.pH0 _ z
    rw [h0] at e; cases e
  refine ⟨⟨by rw [List.length_set]; exact I.len, fun j t e => ?_, fun j k b e1' e2' e1 e2 s1 s2 => ?_, fun b o e n => ?_, I.sub, fun b mb => ?_, fun q z => ?_, I.pH0, I.c0⟩, fun v d r => r.stays st⟩
  · rcases dset e with ⟨rfl, rfl⟩ | ⟨n, e⟩
    · exact ⟨a, kvs', hs, m, h0, upd_same, r.stays st⟩
    · have h := I.slot j t e
      cases t with
      | un => trivial
      | d x => obtain ⟨v, e1, r1⟩ := h; exact ⟨v, e1, r1.stays st⟩
      | pen => exact h
      | own fs =>
        obtain ⟨b, zs, e1, mb, hb0, hb, r1⟩ := h
        have ne : b ≠ a := fun z => by
          subst z
          rw [ha] at hb
          cases hb
        exact ⟨b, zs, e1, mb, hb0, by rw [upd_ne ne]; exact hb, r1.stays st⟩
      | raw v => exact h
      | lenL n => exact h
      | kd P w ps => obtain ⟨b, xs, e1, n1, h1, r1⟩ := h; exact ⟨b, xs, e1, n1, st _ _ h1 fun _ => n1, r1.stays st⟩
      | ownD kd2 => exact absurd (only j kd2 e).symm n
  · have g : ∀ {l : Nat} {fs : List PyData}, (δ.set i (.ownD kd'))[l]? = some (.own fs) → δ[l]? = some (.own fs) := fun {l fs} e => by
      rcases dset e with ⟨_, z⟩ | ⟨_, e⟩
      · cases z
      · exact e
    exact I.dist j k b _ _ (g e1) (g e2) s1 s2
  · have ne : b ≠ a := fun z => by
      subst z
      rw [h0] at e; cases e
    rw [upd_ne ne]
    exact I.ext b o e n
  · by_cases z : b = a
    · subst z; exact ⟨_, upd_same⟩
    · obtain ⟨o, e⟩ := I.alive b mb
      exact ⟨o, by rw [upd_ne z]; exact e⟩
  · obtain ⟨mq, g, s, b, ns, e, rg, h1, h2⟩ := I.pen q z
    have ne : q ≠ a := fun y => np (by rw [← y]; exact z)
    exact ⟨mq, g, s, b, ns, by rw [upd_ne ne]; exact e, rg.stays st, h1, h2⟩
/-- it is changed no more -/
def frzD (i : Nat) (δ : Dl) : Dl := match δ[i]? with
  | some (.ownD kd) => δ.set i (.d (dOf kd))
  | _ => δ
theorem Ok.frzD (I : Ok K C M H σ δ) (i : Nat) (only : OnlyD i δ) : ∃ M', Ok K C M' H σ (DL.frzD i δ) ∧ Tr K M H M' H := by
  unfold DL.frzD
  split
  · rename_i kd hd
    obtain ⟨a, kvs, e1, m, h0, ha, r⟩ := I.slot i _ hd
    have np : C.p ≠ some a := fun z => by
      obtain ⟨o, e⟩ := I.pH0 _ z
      rw [h0] at e; cases e
    have ls : ∀ b, (M b ∧ b ≠ a) → M b := fun b z => z.1
    refine ⟨fun b => M b ∧ b ≠ a, ⟨by rw [List.length_set]; exact I.len, fun j t e => ?_, fun j k b e1' e2' f1 f2 s1 s2 => ?_, I.ext, fun b mb => ⟨I.sub b mb, fun z => ?_⟩, fun b mb => I.alive b mb.1, fun q z => ?_, I.pH0, I.c0⟩, fun v d r => r.less ls⟩
    · rcases dset e with ⟨rfl, rfl⟩ | ⟨n, e⟩
      · exact ⟨.ref a, e1, (r.less ls).to (fun z => z.2 rfl) ha⟩
      · have h := I.slot j t e
        cases t with
        | un => trivial
        | d x => obtain ⟨v, e1, r1⟩ := h; exact ⟨v, e1, r1.less ls⟩
        | pen => exact h
        | own fs =>
          obtain ⟨b, zs, e2, mb, hb0, hb, r1⟩ := h
          exact ⟨b, zs, e2, ⟨mb, fun z => by subst z; rw [ha] at hb; cases hb⟩, hb0, hb, r1.less ls⟩
        | raw v => exact h
        | lenL n => exact h
        | kd P w ps => obtain ⟨b, xs, e1, n1, h1, r1⟩ := h; exact ⟨b, xs, e1, fun z => n1 z.1, h1, r1.less ls⟩
        | ownD kd2 => exact absurd (only j kd2 e).symm n
    · have g : ∀ {l : Nat} {fs : List PyData}, (δ.set i (.d (dOf kd)))[l]? = some (.own fs) → δ[l]? = some (.own fs) := fun {l fs} e => by
        rcases dset e with ⟨_, z⟩ | ⟨_, e⟩
        · cases z
        · exact e
      exact I.dist j k b _ _ (g f1) (g f2) s1 s2
    · obtain ⟨o, q⟩ := I.c0 b mb
      rw [z, h0] at q; cases q
    · obtain ⟨mq, g, s, b, ns, e, rg, h1, h2⟩ := I.pen q z
      exact ⟨⟨mq, fun y => np (by rw [← y]; exact z)⟩, g, s, b, ns, e, rg.less ls, h1, h2⟩
  · exact ⟨M, I, Tr.refl⟩
end
section
variable {X : Cx} {K : PySem.W.Frag} {e k : Expr} {te tk : TE} {we wk : WE} {pos : Pos}
/-- x = {}, to be stored into -/
def wOwnD (i : Nat) : WS := fun Φ δ => i < δ.length ∧ Φ.nx (δ.set i (.ownD []))
theorem dst_ownD {i : Nat} : DSt K (tAsg tDNewK (gName i)) (wOwnD i) := by
  refine ⟨fun C M H σ δ D Φ I hw c => ?_⟩
  intro p hp
  have I1 := I.with (o := .dK []) hp
  have I2 := I1.put (i := i) (v := .ref p) (sv := .ownD []) (by rw [← I.len]; exact hw.1) ⟨p, [], rfl, .inr rfl, I.fresh0 hp, upd_same, .nil⟩ fun _ z => nomatch z
  exact c.nx _ _ _ _ I2 (fun v d r => r.map (With.fresh hp) (Stays.of_same (same_new hp))) hw.2
theorem ds_ownD {i : Nat} {x : Str} {p1 pos' : Pos} (hN : X.N.Nodup) (hi : X.N[i]? = some x) (hx : Loc X.env.scope x) (hs : swapsWith (.Dict [] [] p1) (some (.Name x pos')) pos.line X.env = pure false := by rfl)
    (hf : X.fn x = true ∨ X.env.scope.names.lookup x = some .local := by first | exact .inl rfl | exact .inr rfl | assumption) : DS X (.Assign [.Name x pos'] (.Dict [] [] p1) pos) (tAsg tDNewK (gName i)) (wOwnD i) :=
  ⟨ps_set hN hi hx de_dnew.pe hs hf, dst_ownD⟩
/-- d[k] = e -/
def wDset (i : Nat) (we wk : WE) : WS := fun Φ δ => ∃ kd, δ[i]? = some (.ownD kd) ∧ OnlyD i δ ∧ kd.length < sizeLine ∧ we δ fun dv => wk δ fun dk => ∃ j, dk = keyD j ∧ Φ.nx (δ.set i (.ownD (dPut kd j dv)))
theorem dst_dset {i : Nat} (h : DEt K te we) (hk : DEt K tk wk) : DSt K (tAsg te (gSub (tVar i) tk rSetD)) (wDset i we wk) := by
  refine ⟨fun C M H σ δ D Φ I hw c => ?_⟩
  obtain ⟨kd, e, only, hl, hw⟩ := hw
  refine h.run C M H σ δ _ _ I hw fun v d H1 x1 p1 r1 w1 => ?_
  have I1 := I.next x1 p1
  obtain ⟨a0, kvs0, e0, _⟩ := I1.slot i _ e
  refine ⟨_, sAt_some e0, hk.run C M H1 σ δ _ _ I1 w1 fun y dy H2 x2 p2 r2 w2 => ?_⟩
  have I2 := I1.next x2 p2
  obtain ⟨j, rfl, hf⟩ := w2
  obtain ⟨a, kvs, e1, m, h0, ha, r⟩ := I2.slot i _ e
  rw [e0] at e1
  cases e1
  obtain ⟨I3, t3⟩ := I2.writeD e only e0 h0 m ha (r.put (k := j) (r1.stays (x2.stays p1)))
  exact ⟨a0, _, rfl, .inl ⟨kvs, j, ha, r2.key, by rw [← r.length]; exact hl, rfl⟩, c.nx _ _ _ _ I3 ((Tr.of_ext I.pen x1).trans ((Tr.of_ext I1.pen x2).trans t3)) hf⟩
theorem ds_dset (i : Nat) {x : Str} {p1 p2 : Pos} (hu : X.A.units + 64 < cLine) (he : DE X e te we) (hk : DE X k tk wk) (hN : X.N[i]? = some x := by rfl)
    (hv : Vis X.env.scope x := by first | exact Or.inl rfl | exact Or.inr (Or.inl rfl) | exact Or.inr (Or.inr rfl))
    (hd : (x == ("__debug__" : Str)) = false := by decide) (hcd : (x == ("__classdict__" : Str)) = false := by decide)
    (hs : swapsWithSole [.Subscript (.Name x p1) k p2] e pos.line X.env = pure false := by rfl) (hw : swappedStores [.Subscript (.Name x p1) k p2] e X.env = pure none := by rfl)
    (h1 : (assignEach [.Subscript (.Name x p1) k p2] X.env).map (·.2) = [assign (.Subscript (.Name x p1) k p2) X.env] := by rfl)
    (ha : ∀ v, assign (.Subscript (.Name x p1) k p2) X.env v = (do
      let ov ← holding [v] (eval (.Name x p1) X.env)
      let iv ← holding [v, ov] (eval k X.env)
      standAt p2
      holding [v, ov, iv] (setItem ov iv v)
      release [v, ov, iv] []) := by intro _; rfl) :
    DS X (.Assign [.Subscript (.Name x p1) k p2] e pos) (tAsg te (gSub (tVar i) tk rSetD)) (wDset i we wk) :=
  ⟨ps_asg he.pe (pg_sub (pe_var hN hv hd hcd) hk.pe (set_dict (by omega)) ha) hs hw h1, dst_dset he.dt hk.dt⟩
/-- a statement that reads the dict as a value -/
def wFrzD (i : Nat) (w : WS) : WS := fun Φ δ => OnlyD i δ ∧ w Φ (frzD i δ)
theorem ds_frzD {s : Stmt} {t : TS} {w : WS} (i : Nat) (h : DS X s t w) : DS X s t (wFrzD i w) := by
  refine ⟨h.pe, ⟨fun C M H σ δ D Φ I hw c => ?_⟩⟩
  obtain ⟨M', I', tr⟩ := I.frzD i hw.1
  exact h.dt.run C M' H σ _ D Φ I' hw.2 ⟨fun M2 σ2 δ2 H2 J t q => c.nx M2 σ2 δ2 H2 J (tr.trans t) q, fun M2 σ2 δ2 H2 J t q => c.bk M2 σ2 δ2 H2 J (tr.trans t) q, fun M2 σ2 δ2 H2 J t q => c.ct M2 σ2 δ2 H2 J (tr.trans t) q, fun M2 σ2 δ2 H2 v d J t r q => c.rt M2 σ2 δ2 H2 v d J (tr.trans t) r q⟩
/-- a module's whole number -/
theorem de_glI {x : Str} {n : Int} (h : ∃ t, X.mg x = some (.int n t)) (hg : Gl X x := by rfl) (hd : (x == ("__debug__" : Str)) = false := by decide) : DE X (.Name x pos) (tC (.int n)) (wC (.int n)) := by
  obtain ⟨t, ht⟩ := h
  exact ⟨pe_glob hg ht ⟨t, rfl⟩ hd, dt_c fun _ _ => .int n⟩
end
end DL
/-! a list of one's own, asked for its length or an item without being told to be done -/
namespace DL
open PySem PySem.Spec PyProof.Rows L2
section
variable {X : Cx} {ti : TE} {wi' : WE} {pos p p2 : Pos}
def wLenO (i : Nat) : WE := fun δ Φ => ∃ ds, δ[i]? = some (.own ds) ∧ Φ (.int (ds.length : Nat))
theorem de_lenO {K' : PySem.W.Frag} (i : Nat) {x : Str} (hm : X.mg "len" = none) (ha : PA X [.Name x p2] (tCons (tVar i) tNil)) (hg : Gl X "len" := by rfl)
    (he : starEach [.Name x p2] X.env = (false, eval (.Name x p2) X.env) :: starEach [] X.env := by rfl) (hpl : (backTo pos (starEach [] X.env)).any (·.1) = false := by rfl) (hK : X.K = K' := by rfl) :
    DE X (.Call (.Name "len" p) [.Name x p2] [] pos) (tCB (fun xs H Q => ∃ x n, xs = [x] ∧ LenV K' x H n ∧ Q (.int n) H) (tCons (tVar i) tNil)) (wLenO i) := by
  subst hK
  refine ⟨pe_callB call_len hg hm boot_len ha (he := he) (hpl := hpl), ⟨fun C M H σ δ Q Φ I hw q => ?_⟩⟩
  obtain ⟨ds, e, hf⟩ := hw
  obtain ⟨a, xs, e1, m, h0, ha, r⟩ := I.slot i _ e
  exact ⟨_, sAt_some e1, _, _, rfl, .inl ⟨xs, SqL.of ha, rfl⟩, q _ _ H ExtP.refl I.pen (.int _) (by rw [← r.length]; exact hf)⟩
end
end DL
namespace DL
open PySem PySem.Spec PyProof.Rows L2
section
variable {X : Cx} {b : Expr} {tb : TE} {wb : WE} {pos p1 : Pos}
def wIxO (i : Nat) (wb : WE) : WE := fun δ Φ => ∃ ds, δ[i]? = some (.own ds) ∧ wb δ fun d => ∃ k y, d = .int k ∧ L2.atI ds k = some y ∧ Φ y
theorem de_ixO {K' : PySem.W.Frag} (i : Nat) {x : Str} (hb : DE X b tb wb) (hN : X.N[i]? = some x := by rfl)
    (hv : Vis X.env.scope x := by first | exact Or.inl rfl | exact Or.inr (Or.inl rfl) | exact Or.inr (Or.inr rfl))
    (hd : (x == ("__debug__" : Str)) = false := by decide) (hcd : (x == ("__classdict__" : Str)) = false := by decide) (hs : PlainIx b := by exact fun _ _ => rfl) (hK : X.K = K' := by rfl) :
    DE X (.Subscript (.Name x p1) b pos) (tOp (rIx K') (tVar i) tb) (wIxO i wb) := by
  subst hK
  refine ⟨(de_ix (dv i hN hv hd hcd) hb hs).pe, ⟨fun C M H σ δ Q Φ I hw q => ?_⟩⟩
  obtain ⟨ds, e, hw⟩ := hw
  obtain ⟨a0, xs0, e0, _⟩ := I.slot i _ e
  refine ⟨_, sAt_some e0, hb.dt.run C M H σ δ _ _ I hw fun y d H1 x1 q1 r1 w1 => ?_⟩
  have I1 := I.next x1 q1
  obtain ⟨k, z, rfl, hz, hf⟩ := w1
  obtain ⟨a, xs, e1, m, h0, ha, r⟩ := I1.slot i _ e
  rw [e0] at e1
  cases e1
  cases r1
  obtain ⟨v, hv', rv⟩ := r.atI hz
  exact .inl ⟨_, _, _, v, rfl, rfl, SqL.of ha, hv', q _ _ H1 x1 q1 rv hf⟩
end
end DL
/-! zip of two lists or two tuples, walked; while; a module's whole number -/
namespace DL
open PySem PySem.Spec PyProof.Rows L2
def zipD (xs ys : List PyData) : List PyData := (xs.zip ys).map fun p => .tuple [p.1, p.2]
theorem zip_at {xs ys : List PyData} {i : Nat} {d : PyData} (e : (zipD xs ys)[i]? = some d) : ∃ x y, xs[i]? = some x ∧ ys[i]? = some y ∧ d = .tuple [x, y] := by
  unfold zipD at e
  rw [List.getElem?_map] at e
  obtain ⟨p, hp, rfl⟩ := Option.map_eq_some_iff.mp e
  obtain ⟨h1, h2⟩ := List.getElem?_zip_eq_some.mp hp
  exact ⟨p.1, p.2, h1, h2, rfl⟩
theorem zip_len (xs ys : List PyData) : (zipD xs ys).length = min xs.length ys.length := by
  unfold zipD
  rw [List.length_map, List.length_zip]
section
variable {K : PySem.W.Frag} {a b : Addr} {xs ys : List PyData}
theorem itd_zip : ItD K (Itz K a b) (zipD xs ys) (fun M H => Dr K M H (.ref a) (.list xs) ∧ Dr K M H (.ref b) (.list ys)) := by
  refine ⟨fun i M H d bb e => ?_, fun M H bb => ?_, fun M H M' H' bb t => ⟨t _ _ bb.1, t _ _ bb.2⟩⟩
  · obtain ⟨x, y, hx, hy, rfl⟩ := zip_at e
    obtain ⟨b1, b2⟩ := bb
    cases b1 with
    | lst n1 h1 r1 =>
    cases b2 with
    | lst n2 h2 r2 =>
    obtain ⟨v, hv, rv⟩ := r1.getD hx
    obtain ⟨u, hu, ru⟩ := r2.getD hy
    refine ⟨⟨_, _, v, u, SqL.of h1, SqL.of h2, hv, hu⟩, fun z H' yy => ?_⟩
    obtain ⟨T, v', u', rfl, nT, rfl, y1, y2⟩ := yy
    have e1 := y1 _ (SqL.of h1)
    have e2 := y2 _ (SqL.of h2)
    rw [hv] at e1
    rw [hu] at e2
    cases e1
    cases e2
    exact ⟨same_new nT, .tup (SqT.of upd_same) (.cons (rv.stays (Stays.of_same (same_new nT))) (.cons (ru.stays (Stays.of_same (same_new nT))) .nil))⟩
  · obtain ⟨b1, b2⟩ := bb
    cases b1 with
    | lst n1 h1 r1 =>
    cases b2 with
    | lst n2 h2 r2 =>
    refine ⟨_, _, SqL.of h1, SqL.of h2, ?_⟩
    have e1 := r1.length
    have e2 := r2.length
    rw [zip_len]
    omega
theorem itd_zipT : ItD K (RZ.ItzT K a b) (zipD xs ys) (fun M H => Dr K M H (.ref a) (.tuple xs) ∧ Dr K M H (.ref b) (.tuple ys)) := by
  refine ⟨fun i M H d bb e => ?_, fun M H bb => ?_, fun M H M' H' bb t => ⟨t _ _ bb.1, t _ _ bb.2⟩⟩
  · obtain ⟨x, y, hx, hy, rfl⟩ := zip_at e
    obtain ⟨b1, b2⟩ := bb
    cases b1 with
    | tup h1 r1 =>
    cases b2 with
    | tup h2 r2 =>
    obtain ⟨v, hv, rv⟩ := r1.getD hx
    obtain ⟨u, hu, ru⟩ := r2.getD hy
    refine ⟨⟨_, _, v, u, h1, h2, hv, hu⟩, fun z H' yy => ?_⟩
    obtain ⟨T, v', u', rfl, nT, rfl, y1, y2⟩ := yy
    have e1 := y1 _ h1
    have e2 := y2 _ h2
    rw [hv] at e1
    rw [hu] at e2
    cases e1
    cases e2
    exact ⟨same_new nT, .tup (SqT.of upd_same) (.cons (rv.stays (Stays.of_same (same_new nT))) (.cons (ru.stays (Stays.of_same (same_new nT))) .nil))⟩
  · obtain ⟨b1, b2⟩ := bb
    cases b1 with
    | tup h1 r1 =>
    cases b2 with
    | tup h2 r2 =>
    refine ⟨_, _, h1, h2, ?_⟩
    have e1 := r1.length
    have e2 := r2.length
    rw [zip_len]
    omega
end
section
variable {X : Cx} {e e2 : Expr} {ta : TA} {wa : WA} {p pos tpos : Pos} {elts : List Expr} {kk : Nat}
def wZip (wa : WA) : WI := fun δ Ψ => wa δ fun svs => match svs with
  | [.d (.list xs), .d (.list ys)] => Ψ (zipD xs ys)
  | [.d (.tuple xs), .d (.tuple ys)] => Ψ (zipD xs ys)
  | _ => False
theorem di_zip {K' : PySem.W.Frag} (hm : X.mg "zip" = none) (ha : DA X [e, e2] ta wa) (hg : Gl X "zip" := by rfl)
    (hs : starEach [e, e2] X.env = (false, eval e X.env) :: starEach [e2] X.env := by rfl) (hpl : (backTo pos (starEach [e2] X.env)).any (·.1) = false := by rfl) (hK : X.K = K' := by rfl) :
    DI X (.Tuple elts kk tpos) (.Call (.Name "zip" p) [e, e2] [] pos) (RZ.iZipA K' ta) (wZip wa) := by
  subst hK
  refine ⟨RZ.pi_zipA hg hm ha.pe hs hpl, ⟨fun C M H σ δ R Ψ I hw q => ha.dt.run C M H σ δ _ _ I hw fun vs svs H' x pv al hd => ?_⟩⟩
  split at hd
  · cases al with
    | cons a1 al =>
    cases al with
    | cons a2 al =>
    cases al
    have r1 : Dr X.K M H' _ _ := a1
    have r2 : Dr X.K M H' _ _ := a2
    have s1 := r1
    have s2 := r2
    cases r1 with
    | lst n1 h1 ra =>
    cases r2 with
    | lst n2 h2 rb =>
    exact ⟨_, _, _, _, rfl, .inl ⟨SqL.of h1, SqL.of h2, q _ _ _ H' x pv itd_zip ⟨s1, s2⟩ hd⟩⟩
  · cases al with
    | cons a1 al =>
    cases al with
    | cons a2 al =>
    cases al
    have r1 : Dr X.K M H' _ _ := a1
    have r2 : Dr X.K M H' _ _ := a2
    have s1 := r1
    have s2 := r2
    cases r1 with
    | tup h1 ra =>
    cases r2 with
    | tup h2 rb =>
    exact ⟨_, _, _, _, rfl, .inr ⟨h1, h2, q _ _ _ H' x pv itd_zipT ⟨s1, s2⟩ hd⟩⟩
  · exact hd.elim
end
/-! ### while -/
/-- by what is kept of the state, with a measure that falls -/
def wWhile (wt : WT) (wb : WS) : WS := fun Φ δ => ∃ I : Nat → Dl → Prop, (∃ m, I m δ) ∧ ∀ m δ, I m δ → wt δ fun b => if b = true then wb { Φ with nx := fun δ' => ∃ m', m' < m ∧ I m' δ', ct := fun δ' => ∃ m', m' < m ∧ I m' δ', bk := Φ.nx } δ else Φ.nx δ
section
variable {X : Cx} {K : PySem.W.Frag}
theorem dst_while {tc : TT} {wt : WT} {tb : TS} {wb : WS} (hc : DTt K tc wt) (hb : DSt K tb wb) : DSt K (tWhile tc tb) (wWhile wt wb) := by
  refine ⟨fun C M H σ δ D Φ I hw c => ?_⟩
  obtain ⟨J, ⟨m0, j0⟩, turn⟩ := hw
  refine ⟨fun m σ' H' => ∃ M' δ', Ok K C M' H' σ' δ' ∧ Tr K M H M' H' ∧ J m δ', ⟨m0, M, δ, I, Tr.refl, j0⟩, ?_⟩
  rintro m σ' H' ⟨M', δ', I', t', j'⟩
  refine hc.run C M' H' σ' δ' _ _ I' (turn m δ' j') fun b H1 x1 p1 h1 => ?_
  have I1 := I'.next x1 p1
  have t1 : Tr K M' H' M' H1 := Tr.of_ext I'.pen x1
  cases b with
  | false => exact c.nx M' σ' δ' H1 I1 (t'.trans t1) h1
  | true =>
    rw [if_pos rfl]
    refine ⟨fun σ2 H2 => ∃ m', m' < m ∧ ∃ M2 δ2, Ok K C M2 H2 σ2 δ2 ∧ Tr K M H M2 H2 ∧ J m' δ2, fun σ2 H2 ⟨m', lt, M2, δ2, a1, a2, a3⟩ => ⟨m', lt, M2, δ2, a1, a2, a3⟩, ?_⟩
    refine hb.run C M' H1 σ' δ' _ _ I1 h1 ⟨fun M4 σ4 δ4 H4 I4 t4 q4 => ?_, fun M4 σ4 δ4 H4 I4 t4 q4 => ?_, fun M4 σ4 δ4 H4 I4 t4 q4 => ?_, fun M4 σ4 δ4 H4 v d I4 t4 r4 q4 => ?_⟩
    · obtain ⟨m', lt, q⟩ := q4
      exact ⟨m', lt, M4, δ4, I4, t'.trans (t1.trans t4), q⟩
    · exact c.nx M4 σ4 δ4 H4 I4 (t'.trans (t1.trans t4)) q4
    · obtain ⟨m', lt, q⟩ := q4
      exact ⟨m', lt, M4, δ4, I4, t'.trans (t1.trans t4), q⟩
    · exact c.rt M4 σ4 δ4 H4 v d I4 (t'.trans (t1.trans t4)) r4 q4
theorem ds_while {e : Expr} {body : List Stmt} {tc : TT} {wt : WT} {tb : TS} {wb : WS} {pos : Pos} (hp : PassesOwn (model X.prog X.w) X.A X.env X.xe) (hc : DT X e tc wt) (hb : DSs X body tb wb) : DS X (.While e body [] pos) (tWhile tc tb) (wWhile wt wb) :=
  ⟨ps_while hp hc.pe hb.pe, dst_while hc.dt hb.dt⟩
end
end DL
/-! zip of three lists, walked -/
namespace DL
open PySem PySem.Spec PyProof.Rows L2
abbrev listIt (l : Addr) : Obj := { cls := .type "list_iterator", data := .fields #[.ref l, .int 0 0] }
abbrev trH1 (h : Heap) (l1 : Addr) : Heap := h.push (listIt l1)
abbrev trH2 (h : Heap) (l1 l2 : Addr) : Heap := (trH1 h l1).push (listIt l2)
abbrev trH3 (h : Heap) (l1 l2 l3 : Addr) : Heap := (trH2 h l1 l2).push (listIt l3)
abbrev trH4 (h : Heap) (l1 l2 l3 : Addr) : Heap := (trH3 h l1 l2 l3).push { cls := .type "tuple", data := .seq #[.ref h.objs.size, .ref (trH1 h l1).objs.size, .ref (trH2 h l1 l2).objs.size] }
abbrev trH5 (h : Heap) (l1 l2 l3 : Addr) : Heap := (trH4 h l1 l2 l3).push { cls := .type "tuple", data := .seq #[.none, .none, .none] }
abbrev trH6 (h : Heap) (l1 l2 l3 : Addr) : Heap := (trH5 h l1 l2 l3).push { cls := .type "zip", data := .fields #[.none, .bool false, .bool false, .ref (trH3 h l1 l2 l3).objs.size, .ref (trH4 h l1 l2 l3).objs.size] }
theorem typeCall_zip_3 (a b c : Value) : checkTypeCall "zip" ⟨[a, b, c], []⟩ = pure () := by kernel_rfl
theorem newCall_zip_3 (a b c : Value) : checkBuiltinCall "zip.__new__" ⟨[.type "zip", a, b, c], []⟩ = pure () := by kernel_rfl
open PySem.F in
theorem args_object_init_4 (a b c d : Value) : argsOk "object.__init__" ⟨[a, b, c, d], []⟩ := by
  unfold argsOk; rw [signature?_of (id := "object.__init__") (n := ['_', '_', 't', 'i', 'n', 'i', '_', '_']) (o := ['t', 'c', 'e', 'j', 'b', 'o']) (by kernel_rfl) owner_object]; kernel_rfl
theorem tri_new (l1 l2 l3 : Addr) (xs ys zs : Array Value) :
    Meets (Builtin.«zip.__new__» ⟨[.type "zip", .ref l1, .ref l2, .ref l3], []⟩) (fun _ R s => s.heap.IsList l1 xs ∧ s.heap.IsList l2 ys ∧ s.heap.IsList l3 zs ∧
      R (.ok (.ret (.ref (trH5 s.heap l1 l2 l3).objs.size))) { s with heap := trH6 s.heap l1 l2 l3 }) :=
  .of_wp fun prog w A R s h => by
    obtain ⟨hp, g, d, tk, os⟩ := s; obtain ⟨hl1, hl2, hl3, h⟩ := h
    have hsub := sub_zip
    have hL1 : Heap.IsList (Shared.heap ⟨hp, g, d, tk, os⟩) l1 xs := hl1
    have hL2 : Heap.IsList (Shared.heap ⟨hp.push (listIt l1), g, d, tk, os⟩) l2 ys := Heap.IsList.push hl2 _
    have hL3 : Heap.IsList (Shared.heap ⟨(hp.push (listIt l1)).push (listIt l2), g, d, tk, os⟩) l3 zs := Heap.IsList.push (Heap.IsList.push hl3 _) _
    wp_walk using wpAny_pyIter_list hL1, wpAny_pyIter_list hL2, wpAny_pyIter_list hL3
    exact ⟨_, rfl, h⟩
section
variable {prog : Program} {w : World} {A : Around} {E : Value → Shared → Prop} {s : Shared}
theorem call_tri {l1 l2 l3 : Addr} {xs ys zs : Array Value} {Q : Value → Shared → Prop} (hl1 : s.heap.IsList l1 xs) (hl2 : s.heap.IsList l2 ys) (hl3 : s.heap.IsList l3 zs)
    (h : ∀ h', IsZip h' (s.heap.objs.size + 5) (s.heap.objs.size + 3) (s.heap.objs.size + 4) .none → IsTupOf3 h' (s.heap.objs.size + 3) (.ref s.heap.objs.size) (.ref (s.heap.objs.size + 1)) (.ref (s.heap.objs.size + 2)) →
      IsTupOf3 h' (s.heap.objs.size + 4) .none .none .none → h'.IsListIter s.heap.objs.size l1 0 → h'.IsListIter (s.heap.objs.size + 1) l2 0 → h'.IsListIter (s.heap.objs.size + 2) l3 0 →
      (∀ c o, s.heap.get? c = some o → h'.get? c = some o) → Q (.ref (s.heap.objs.size + 5)) { s with heap := h' }) :
    wpAny (model prog w) A (call (.type "zip") [.ref l1, .ref l2, .ref l3]) Q E s := by
  refine callType_new F.called_zip (by decide) (typeCall_zip_3 _ _ _) (newCall_zip_3 _ _ _) (fun obj => args_object_init_4 obj _ _ _) F.entry_zip_new
    (tri_new l1 l2 l3 xs ys zs) ⟨hl1, hl2, hl3, ?_⟩
  have z1 : (trH1 s.heap l1).objs.size = s.heap.objs.size + 1 := Heap.size_push ..
  have z2 : (trH2 s.heap l1 l2).objs.size = s.heap.objs.size + 2 := by rw [Heap.size_push, z1]
  have z3 : (trH3 s.heap l1 l2 l3).objs.size = s.heap.objs.size + 3 := by rw [Heap.size_push, z2]
  have z4 : (trH4 s.heap l1 l2 l3).objs.size = s.heap.objs.size + 4 := by rw [Heap.size_push, z3]
  have z5 : (trH5 s.heap l1 l2 l3).objs.size = s.heap.objs.size + 5 := by rw [Heap.size_push, z4]
  have up : ∀ {h : Heap} {o : Obj} {b : Addr} {x : Obj}, h.get? b = some x → (h.push o).get? b = some x := fun e => Heap.get?_push_of_some _ e
  have g6 : (trH6 s.heap l1 l2 l3).get? (trH5 s.heap l1 l2 l3).objs.size = some _ := Heap.get?_push_size _ rfl
  have g5 : (trH6 s.heap l1 l2 l3).get? (trH4 s.heap l1 l2 l3).objs.size = some _ := up (Heap.get?_push_size _ rfl)
  have g4 : (trH6 s.heap l1 l2 l3).get? (trH3 s.heap l1 l2 l3).objs.size = some _ := up (up (Heap.get?_push_size _ rfl))
  have g3 : (trH6 s.heap l1 l2 l3).get? (trH2 s.heap l1 l2).objs.size = some _ := up (up (up (Heap.get?_push_size _ rfl)))
  have g2 : (trH6 s.heap l1 l2 l3).get? (trH1 s.heap l1).objs.size = some _ := up (up (up (up (Heap.get?_push_size _ rfl))))
  have g1 : (trH6 s.heap l1 l2 l3).get? s.heap.objs.size = some _ := up (up (up (up (up (Heap.get?_push_size _ rfl)))))
  show _ ∧ _
  rw [z3, z4, z5] at g6
  rw [z4] at g5
  rw [z1, z2, z3] at g4
  rw [z2] at g3
  rw [z1] at g2
  rw [z5]
  exact ⟨⟨_, g6, rfl⟩, h _ g6 g4 g5 ⟨_, g1, rfl, rfl⟩ ⟨_, g2, rfl, rfl⟩ ⟨_, g3, rfl, rfl⟩ fun c o x => up (up (up (up (up (up x)))))⟩
end
/-- the lists at a, b and c as they stand at each turn, the items in new triples -/
def Itr (K : PySem.W.Frag) (a b c : Addr) : It :=
  ⟨fun i H => ∃ (xs ys zs : List V) (x y z : V), SqL K H a xs ∧ SqL K H b ys ∧ SqL K H c zs ∧ xs[i]? = some x ∧ ys[i]? = some y ∧ zs[i]? = some z,
    fun i H v H' => ∃ T x y z, v = .ref T ∧ H T = none ∧ H' = upd H T (.tup [x, y, z]) ∧ (∀ xs, SqL K H a xs → xs[i]? = some x) ∧ (∀ ys, SqL K H b ys → ys[i]? = some y) ∧ ∀ zs, SqL K H c zs → zs[i]? = some z,
    fun i H => ∃ xs ys zs : List V, SqL K H a xs ∧ SqL K H b ys ∧ SqL K H c zs ∧ i ≤ xs.length ∧ i ≤ ys.length ∧ i ≤ zs.length ∧ (i = xs.length ∨ i = ys.length ∨ i = zs.length)⟩
theorem tri_sep {I a b c : Nat} (ha : a < I) (hb : b < I) (hc : c < I) : ZipSep3 (I + 5) (I + 3) (I + 4) I (I + 1) (I + 2) [I, a] [I + 1, b] [I + 2, c] := by
  have n : ∀ {x y : Nat}, (x < y ∨ y < x) → (x : Addr) ≠ y := fun h e => by
    have e' : (_ : Nat) = _ := e
    rcases h with h | h
    · exact absurd e' (Nat.ne_of_lt h)
    · exact absurd e' (Nat.ne_of_gt h)
  have no : ∀ {x y z : Nat}, (x < y ∨ y < x) → (x < z ∨ z < x) → (x : Addr) ∉ [(y : Addr), z] := fun h1 h2 m => by
    rcases List.mem_cons.mp m with e | m
    · exact n h1 e
    · exact n h2 (List.mem_singleton.mp m)
  exact ⟨n (by omega), n (by omega), n (by omega), n (by omega), List.mem_cons_self .., no (by omega) (by omega), no (by omega) (by omega), n (by omega), List.mem_cons_self .., no (by omega) (by omega), no (by omega) (by omega),
    n (by omega), List.mem_cons_self .., no (by omega) (by omega), no (by omega) (by omega), no (by omega) (by omega), no (by omega) (by omega), no (by omega) (by omega), no (by omega) (by omega), no (by omega) (by omega), no (by omega) (by omega)⟩
theorem turn_itr {P : Program} {w : World} {K : PySem.W.Frag} {elts : List Expr} {kk : Nat} {tpos : Pos} {a b c z TI TO i1 i2 i3 : Addr} (D : ZipSep3 z TI TO i1 i2 i3 [i1, a] [i2, b] [i3, c]) (n1 : a ≠ i1) (n2 : b ≠ i2) (n3 : c ≠ i3) :
    Turn P w K (.Tuple elts kk tpos) (Itr K a b c) [z, TI, TO, i1, i2, i3] z (fun i h => IsZip h z TI TO .none ∧ IsTupOf3 h TI (.ref i1) (.ref i2) (.ref i3) ∧ (∃ x y u, IsTupOf3 h TO x y u) ∧ h.IsListIter i1 a i ∧ h.IsListIter i2 b i ∧ h.IsListIter i3 c i) where
  mem := by simp
  obj := fun i h st q hq => by
    obtain ⟨hz, hTI, ⟨x, y, u, hTO⟩, ⟨o1, e1, _, d1⟩, ⟨o2, e2, _, d2⟩, ⟨o3, e3, _, d3⟩⟩ := st
    have e' : q = z ∨ q = TI ∨ q = TO ∨ q = i1 ∨ q = i2 ∨ q = i3 := by simpa using hq
    rcases e' with e | e | e | e | e | e
    · rw [e]; exact ⟨_, hz, fun v q => nomatch q⟩
    · rw [e]; exact ⟨_, hTI, fun v q => nomatch q⟩
    · rw [e]; exact ⟨_, hTO, fun v q => nomatch q⟩
    · rw [e]; exact ⟨o1, e1, fun v q => by rw [d1] at q; cases q⟩
    · rw [e]; exact ⟨o2, e2, fun v q => by rw [d2] at q; cases q⟩
    · rw [e]; exact ⟨o3, e3, fun v q => by rw [d3] at q; cases q⟩
  keep := fun i h h' st k => by
    obtain ⟨hz, hTI, ⟨x, y, u, hTO⟩, h1, h2, h3⟩ := st
    exact ⟨k z (by simp) _ hz, k TI (by simp) _ hTI, ⟨x, y, u, k TO (by simp) _ hTO⟩, h1.at fun o q => k i1 (by simp) o q, h2.at fun o q => k i2 (by simp) o q, h3.at fun o q => k i3 (by simp) o q⟩
  item := by
    intro X hP hw hK hc i pins s σ H E I hf st hg
    subst hP hw hK
    obtain ⟨hz, hTI, ⟨x0, y0, u0, hTO⟩, h1, h2, h3⟩ := st
    obtain ⟨xs, ys, zs, x, y, z', hqx, hqy, hqz, hx, hy, hz'⟩ := hg
    obtain ⟨its, rv, p, _⟩ := I.list hqx
    obtain ⟨its2, rv2, p2, _⟩ := I.list hqy
    obtain ⟨its3, rv3, p3, _⟩ := I.list hqz
    obtain ⟨u, hu, ru⟩ := rv.get hx
    obtain ⟨u2, hu2, ru2⟩ := rv2.get hy
    obtain ⟨u3, hu3, ru3⟩ := rv3.get hz'
    have hzl : z < s.heap.objs.size := Heap.lt_size hz
    have hh : X.A.in1.in1.handled = none := I.ok.hd hc
    have sz : ∀ {l : List Value} {v : Value}, l[i]? = some v → i < l.toArray.size := fun e => by
      have := (List.getElem?_eq_some_iff.mp e).1
      simpa using this
    refine wpAny_pyNext_zipD3_item D (Draws.list (show X.A.in1.handled = none from I.ok.hd hc) i1 a n1 its.toArray) (Draws.list (show X.A.in1.handled = none from I.ok.hd hc) i2 b n2 its2.toArray) (Draws.list (show X.A.in1.handled = none from I.ok.hd hc) i3 c n3 its3.toArray) hz hTI hTO ⟨h1, p.isList⟩ ⟨h2, p2.isList⟩ ⟨h3, p3.isList⟩ (sz hu) (sz hu2) (sz hu3) fun x1 x2 x3 h' tk y1 y2 y3 z1 TO' s1 s2 s3 hT hsz hk => ?_
    have e1 : x1 = u := by
      have : its.toArray[i]? = some u := by simpa using hu
      rw [this] at y1
      exact (Option.some.inj y1).symm
    have e2 : x2 = u2 := by
      have : its2.toArray[i]? = some u2 := by simpa using hu2
      rw [this] at y2
      exact (Option.some.inj y2).symm
    have e3 : x3 = u3 := by
      have : its3.toArray[i]? = some u3 := by simpa using hu3
      rw [this] at y3
      exact (Option.some.inj y3).symm
    subst e1 e2 e3
    refine ⟨_, rfl, wpAny_letOwnedTupleGo_zip (s := { s with heap := h', toks := tk }) z1 fun h'' z'' sb => ?_⟩
    have hT2 : h''.get? s.heap.objs.size = some { cls := .type "tuple", data := .seq #[x1, x2, x3] } := (sb.2 _ (Nat.ne_of_gt hzl)).trans hT
    have new : ObjOk X.prog X.w (upd H s.heap.objs.size (.tup [x, y, z'])) h'' s.heap.objs.size (.tup [x, y, z']) :=
      ⟨by show 3 ≤ sizeLine; decide, [x1, x2, x3], .cons ru (.cons ru2 (.cons ru3 .nil)), ⟨_, hT2, rfl, _, rfl⟩⟩
    have I1 : Inv X pins σ (upd H s.heap.objs.size (.tup [x, y, z'])) { s with heap := h'', toks := tk } :=
      I.turnedNew (ch := [z, TI, TO, i1, i2, i3]) (fun c o hb q => (sb.2 c (fun q' => hb (by simp [q']))).trans (hk c o (fun q' => hb (by simp [q'])) (fun q' => hb (by simp [q'])) (fun q' => hb (by simp [q'])) (fun q' => hb (by simp [q'])) (fun q' => hb (by simp [q'])) q)) hf (Nat.le_refl _) new
    have at' : ∀ {j l : Addr} {k : Nat}, j ≠ z → h'.IsListIter j l k → h''.IsListIter j l k := fun ne h => h.at fun o q => (sb.2 _ ne).trans q
    refine ⟨.ref s.heap.objs.size, _, I1, rfl, ⟨_, x, y, z', rfl, I.hok.fresh (Nat.le_refl _), rfl, fun l hl => by rw [I.list_inj hl hqx]; exact hx, fun l hl => by rw [I.list_inj hl hqy]; exact hy, fun l hl => by rw [I.list_inj hl hqz]; exact hz'⟩, ⟨z'', ?_, ⟨x1, x2, x3, ?_⟩, at' D.zi1.symm s1.1, at' D.zi2.symm s2.1, at' D.zi3.symm s3.1⟩, fun q hqm => ?_⟩
    · exact (sb.2 _ D.TIz).trans (hk _ _ D.TIz D.TITO D.TIi1 D.TIi2 D.TIi3 hTI)
    · exact (sb.2 _ D.TOz).trans TO'
    · have hlt : q < s.heap.objs.size := by
        have e' : q = z ∨ q = TI ∨ q = TO ∨ q = i1 ∨ q = i2 ∨ q = i3 := by simpa using hqm
        rcases e' with e | e | e | e | e | e
        · rw [e]; exact hzl
        · rw [e]; exact Heap.lt_size hTI
        · rw [e]; exact Heap.lt_size hTO
        · rw [e]; obtain ⟨_, e1, _⟩ := h1; exact Heap.lt_size e1
        · rw [e]; obtain ⟨_, e2, _⟩ := h2; exact Heap.lt_size e2
        · rw [e]; obtain ⟨_, e3, _⟩ := h3; exact Heap.lt_size e3
      rw [upd_ne (Nat.ne_of_lt hlt)]
      exact (hf q hqm).1
  done := by
    intro X hP hw hK hc i pins s σ H E I hf st hg
    subst hP hw hK
    obtain ⟨hz, hTI, ⟨x0, y0, u0, hTO⟩, h1, h2, h3⟩ := st
    obtain ⟨xs, ys, zs, hqx, hqy, hqz, l1, l2, l3, hend⟩ := hg
    obtain ⟨its, rv, p, _⟩ := I.list hqx
    obtain ⟨its2, rv2, p2, _⟩ := I.list hqy
    obtain ⟨its3, rv3, p3, _⟩ := I.list hqz
    have m1 := rv.length
    have m2 := rv2.length
    have m3 := rv3.length
    refine wpAny_pyNext_zipD3_end D (Draws.list (show X.A.in1.handled = none from I.ok.hd hc) i1 a n1 its.toArray) (Draws.list (show X.A.in1.handled = none from I.ok.hd hc) i2 b n2 its2.toArray) (Draws.list (show X.A.in1.handled = none from I.ok.hd hc) i3 c n3 its3.toArray) hz hTI hTO ⟨h1, p.isList⟩ ⟨h2, p2.isList⟩ ⟨h3, p3.isList⟩ (by simp; omega) (by simp; omega) (by simp; omega) ?_ fun h' tk hk => ⟨rfl, I.turnedL (t' := tk) (ch := [z, TI, TO, i1, i2, i3]) (fun c o hb q =>
      hk c o (fun q' => hb (by simp [q'])) (fun q' => hb (by simp [q'])) (fun q' => hb (by simp [q'])) (fun q' => hb (by simp [q'])) (fun q' => hb (by simp [q'])) q) hf⟩
    simp
    omega
  self := fun A i s Q E st h => wpAny_pyIter_zip st.1 h
end DL
/-! zip of three over data; several names at once, one of them a list or a dict of one's own -/
namespace DL
open PySem PySem.Spec PyProof.Rows L2
def zip3D (xs ys zs : List PyData) : List PyData := (xs.zip (ys.zip zs)).map fun p => .tuple [p.1, p.2.1, p.2.2]
theorem zip3_at {xs ys zs : List PyData} {i : Nat} {d : PyData} (e : (zip3D xs ys zs)[i]? = some d) : ∃ x y z, xs[i]? = some x ∧ ys[i]? = some y ∧ zs[i]? = some z ∧ d = .tuple [x, y, z] := by
  unfold zip3D at e
  rw [List.getElem?_map] at e
  obtain ⟨p, hp, rfl⟩ := Option.map_eq_some_iff.mp e
  obtain ⟨h1, h2⟩ := List.getElem?_zip_eq_some.mp hp
  obtain ⟨h3, h4⟩ := List.getElem?_zip_eq_some.mp h2
  exact ⟨p.1, p.2.1, p.2.2, h1, h3, h4, rfl⟩
theorem zip3_len (xs ys zs : List PyData) : (zip3D xs ys zs).length = min xs.length (min ys.length zs.length) := by
  unfold zip3D
  rw [List.length_map, List.length_zip, List.length_zip]
section
variable {K : PySem.W.Frag} {a b c : Addr} {xs ys zs : List PyData}
theorem itd_tri : ItD K (Itr K a b c) (zip3D xs ys zs) (fun M H => Dr K M H (.ref a) (.list xs) ∧ Dr K M H (.ref b) (.list ys) ∧ Dr K M H (.ref c) (.list zs)) := by
  refine ⟨fun i M H d bb e => ?_, fun M H bb => ?_, fun M H M' H' bb t => ⟨t _ _ bb.1, t _ _ bb.2.1, t _ _ bb.2.2⟩⟩
  · obtain ⟨x, y, z, hx, hy, hz, rfl⟩ := zip3_at e
    obtain ⟨b1, b2, b3⟩ := bb
    cases b1 with
    | lst n1 h1 r1 =>
    cases b2 with
    | lst n2 h2 r2 =>
    cases b3 with
    | lst n3 h3 r3 =>
    obtain ⟨v, hv, rv⟩ := r1.getD hx
    obtain ⟨u, hu, ru⟩ := r2.getD hy
    obtain ⟨t, ht, rt⟩ := r3.getD hz
    refine ⟨⟨_, _, _, v, u, t, SqL.of h1, SqL.of h2, SqL.of h3, hv, hu, ht⟩, fun z H' yy => ?_⟩
    obtain ⟨T, v', u', t', rfl, nT, rfl, y1, y2, y3⟩ := yy
    have e1 := y1 _ (SqL.of h1)
    have e2 := y2 _ (SqL.of h2)
    have e3 := y3 _ (SqL.of h3)
    rw [hv] at e1
    rw [hu] at e2
    rw [ht] at e3
    cases e1
    cases e2
    cases e3
    exact ⟨same_new nT, .tup (SqT.of upd_same) (.cons (rv.stays (Stays.of_same (same_new nT))) (.cons (ru.stays (Stays.of_same (same_new nT))) (.cons (rt.stays (Stays.of_same (same_new nT))) .nil)))⟩
  · obtain ⟨b1, b2, b3⟩ := bb
    cases b1 with
    | lst n1 h1 r1 =>
    cases b2 with
    | lst n2 h2 r2 =>
    cases b3 with
    | lst n3 h3 r3 =>
    have e1 := r1.length
    have e2 := r2.length
    have e3 := r3.length
    refine ⟨_, _, _, SqL.of h1, SqL.of h2, SqL.of h3, ?_, ?_, ?_, ?_⟩ <;> rw [zip3_len] <;> omega
end
def iTri (K : PySem.W.Frag) (ta : TA) : TI := fun σ H R => ta σ H fun vs H1 => ∃ a b c xs ys zs, vs = [.ref a, .ref b, .ref c] ∧ SqL K H1 a xs ∧ SqL K H1 b ys ∧ SqL K H1 c zs ∧ R (Itr K a b c) H1
theorem pi_tri {X : Cx} {e e2 e3 : Expr} {ta : TA} {p pos tpos : Pos} {elts : List Expr} {kk : Nat} (hg : Gl X "zip") (hm : X.mg "zip" = none) (ha : PA X [e, e2, e3] ta)
    (hs : starEach [e, e2, e3] X.env = (false, eval e X.env) :: starEach [e2, e3] X.env := by rfl) (hpl : (backTo pos (starEach [e2, e3] X.env)).any (·.1) = false := by rfl) :
    PI X (.Tuple elts kk tpos) (.Call (.Name "zip" p) [e, e2, e3] [] pos) (iTri X.K ta) := by
  refine ⟨fun pins s σ H R I h => ?_⟩
  refine Call_ (ld_blt I hg hm PyProof.Rows.boot_zip (PyProof.Rows.callWith_type1 (thn (ha.run pos pins s σ H _ I h) fun us s1 ⟨vs, H1, I1, r1, q1⟩ => ?_) hs hpl))
  obtain ⟨a, b, c, xs, ys, zs, ex, hqx, hqy, hqz, q⟩ := q1
  subst ex
  cases r1 with
  | cons r rr =>
  cases rr with
  | cons r' rr =>
  cases rr with
  | cons r'' rr =>
  cases rr
  cases r
  cases r'
  cases r''
  obtain ⟨its, rv, p1, _⟩ := I1.list hqx
  obtain ⟨its2, rv2, p2, _⟩ := I1.list hqy
  obtain ⟨its3, rv3, p3, _⟩ := I1.list hqz
  refine call_tri p1.isList p2.isList p3.isList fun h' hz hTI hTO h1 h2 h3 hk => wpAny_pyIter_zip hz ?_
  have I2 : Inv X pins σ H1 { s1 with heap := h' } := I1.kept (t' := s1.toks) hk
  have D := tri_sep (I := s1.heap.objs.size) p1.lt p2.lt p3.lt
  have ne : ∀ {x y : Nat}, x < y → (x : Addr) ≠ y := fun h e => absurd (show (_ : Nat) = _ from e) (Nat.ne_of_lt h)
  refine ⟨s1.heap.objs.size + 5, [s1.heap.objs.size + 5, s1.heap.objs.size + 3, s1.heap.objs.size + 4, s1.heap.objs.size, s1.heap.objs.size + 1, s1.heap.objs.size + 2], _, _, H1, rfl, I2,
    turn_itr D (ne p1.lt) (ne (Nat.lt_succ_of_lt p2.lt)) (ne (Nat.lt_succ_of_lt (Nat.lt_succ_of_lt p3.lt))), ⟨hz, hTI, ⟨_, _, _, hTO⟩, h1, h2, h3⟩, fun q hqm => ?_, q⟩
  have hle : s1.heap.objs.size ≤ q := by
    have e' : q = s1.heap.objs.size + 5 ∨ q = s1.heap.objs.size + 3 ∨ q = s1.heap.objs.size + 4 ∨ q = s1.heap.objs.size ∨ q = s1.heap.objs.size + 1 ∨ q = s1.heap.objs.size + 2 := by simpa using hqm
    rcases e' with z | z | z | z | z | z <;> rw [z]
    · exact Nat.le_add_right _ _
    · exact Nat.le_add_right _ _
    · exact Nat.le_add_right _ _
    · exact Nat.le_refl _
    · exact Nat.le_add_right _ _
    · exact Nat.le_add_right _ _
  exact I1.fpOk hle (I1.hok.fresh hle)
section
variable {X : Cx} {e e2 e3 : Expr} {ta : TA} {wa : WA} {p pos tpos : Pos} {elts : List Expr} {kk : Nat}
def wZip3 (wa : WA) : WI := fun δ Ψ => wa δ fun svs => match svs with
  | [.d (.list xs), .d (.list ys), .d (.list zs)] => Ψ (zip3D xs ys zs)
  | _ => False
theorem di_zip3 {K' : PySem.W.Frag} (hm : X.mg "zip" = none) (ha : DA X [e, e2, e3] ta wa) (hg : Gl X "zip" := by rfl)
    (hs : starEach [e, e2, e3] X.env = (false, eval e X.env) :: starEach [e2, e3] X.env := by rfl) (hpl : (backTo pos (starEach [e2, e3] X.env)).any (·.1) = false := by rfl) (hK : X.K = K' := by rfl) :
    DI X (.Tuple elts kk tpos) (.Call (.Name "zip" p) [e, e2, e3] [] pos) (iTri K' ta) (wZip3 wa) := by
  subst hK
  refine ⟨pi_tri hg hm ha.pe hs hpl, ⟨fun C M H σ δ R Ψ I hw q => ha.dt.run C M H σ δ _ _ I hw fun vs svs H' x pv al hd => ?_⟩⟩
  split at hd
  · cases al with
    | cons a1 al =>
    cases al with
    | cons a2 al =>
    cases al with
    | cons a3 al =>
    cases al
    have r1 : Dr X.K M H' _ _ := a1
    have r2 : Dr X.K M H' _ _ := a2
    have r3 : Dr X.K M H' _ _ := a3
    have s1 := r1
    have s2 := r2
    have s3 := r3
    cases r1 with
    | lst n1 h1 ra =>
    cases r2 with
    | lst n2 h2 rb =>
    cases r3 with
    | lst n3 h3 rc =>
    exact ⟨_, _, _, _, _, _, rfl, SqL.of h1, SqL.of h2, SqL.of h3, q _ _ _ H' x pv itd_tri ⟨s1, s2, s3⟩ hd⟩
  · exact hd.elim
end
/-! ### several names at once -/
section
variable {K : PySem.W.Frag} {C : Ct} {M : Addr → Prop} {H : Hp} {σ : Sl} {δ : Dl}
/-- a list of one's own that no slot holds yet comes into a slot -/
theorem Ok.adopt (I : Ok K C M H σ δ) {i : Nat} {a : Addr} {xs : List V} {ds : List PyData} (hi : i < σ.length) (m : M a) (h0 : C.H0 a = none) (ha : H a = some (.lst xs)) (r : DrA K M H xs ds)
    (apart : ∀ j es, δ[j]? = some (.own es) → sAt σ j ≠ some (.ref a)) : Ok K C M H (σ.set i (some (.ref a))) (δ.set i (.own ds)) := by
  refine ⟨by rw [List.length_set, List.length_set]; exact I.len, fun j t e => ?_, fun j k b es fs e1 e2 s1 s2 => ?_, I.ext, I.sub, I.alive, I.pen, I.pH0, I.c0⟩
  · rw [sAt_set hi]
    rcases dset e with ⟨rfl, rfl⟩ | ⟨n, e⟩
    · rw [if_pos rfl]; exact ⟨a, xs, rfl, m, h0, ha, r⟩
    · rw [if_neg n]; exact I.slot j t e
  · rw [sAt_set hi] at s1 s2
    rcases dset e1 with ⟨rfl, _⟩ | ⟨n1, e1⟩
    · rcases dset e2 with ⟨rfl, _⟩ | ⟨n2, e2⟩
      · rfl
      · rw [if_pos rfl] at s1
        rw [if_neg n2] at s2
        cases s1
        exact absurd s2 (apart k fs e2)
    · rcases dset e2 with ⟨rfl, _⟩ | ⟨n2, e2⟩
      · rw [if_pos rfl] at s2
        rw [if_neg n1] at s1
        cases s2
        exact absurd s1 (apart j es e1)
      · rw [if_neg n1] at s1
        rw [if_neg n2] at s2
        exact I.dist j k b es fs e1 e2 s1 s2
/-- with a new object that is counted among the changing ones -/
theorem Ok.grown (I : Ok K C M H σ δ) {a : Addr} {o : HO} (ha : H a = none) : Ok K C (With M a) (upd H a o) σ δ := I.with ha
end
section
variable {X : Cx} {K : PySem.W.Frag} {te : TE} {we : WE} {pos : Pos}
/-- a, b = [], e -/
def wParF (i j : Nat) (we : WE) : WS := fun Φ δ => i < δ.length ∧ j < δ.length ∧ i ≠ j ∧ we δ fun d => Φ.nx ((δ.set i (.own [])).set j (.d d))
theorem dst_parF {i j : Nat} (he : DEt K te we) : DSt K (tPar i j (tCons (tLst tNil) (tCons te tNil))) (wParF i j we) := by
  refine ⟨fun C M H σ δ D Φ I hw c => ?_⟩
  obtain ⟨hi, hj, hij, hw⟩ := hw
  refine ⟨Nat.zero_le _, fun a ha => ?_⟩
  have I1 := I.with (o := .lst []) ha
  refine he.run C _ _ σ δ _ _ I1 hw fun v d H2 x2 p2 r2 w2 => ?_
  have I2 := I1.next x2 p2
  have h0 := I.fresh0 ha
  have np : C.p ≠ some a := fun z => by
    obtain ⟨o, e⟩ := I.pH0 _ z
    rw [h0] at e; cases e
  have ha2 : H2 a = some (.lst []) := x2 _ _ upd_same np
  have ap : ∀ j es, δ[j]? = some (.own es) → sAt σ j ≠ some (.ref a) := fun j es e z => by
    obtain ⟨b, ys, e1, m, _, hb, _⟩ := I.slot j _ e
    rw [z] at e1
    cases e1
    rw [ha] at hb; cases hb
  have I3 := I2.adopt (i := i) (by rw [← I.len]; exact hi) (.inr rfl) h0 ha2 .nil ap
  have I4 := I3.put (i := j) (v := v) (sv := .d d) (by rw [List.length_set, ← I.len]; exact hj) ⟨_, rfl, r2⟩ fun _ z => nomatch z
  refine ⟨_, _, rfl, c.nx _ _ _ H2 I4 ?_ w2⟩
  exact fun v d r => (Tr.of_ext I1.pen x2) _ _ (r.map (With.fresh ha) (Stays.of_same (same_new ha)))
theorem ds_parF {i j : Nat} {x y : Str} {b : Expr} {p0 px py pt : Pos} {kt k2 pt2} (hc : X.calm = true) (hN : X.N.Nodup) (hi : X.N[i]? = some x) (hj : X.N[j]? = some y) (hij : i ≠ j)
    (hx : X.env.scope.names.lookup x = some .local) (hy : X.env.scope.names.lookup y = some .local) (hb : DE X b te we)
    (hw : swappedStores [.Tuple [.Name x px, .Name y py] kt pt] (.Tuple [.List [] p0, b] k2 pt2) X.env = pure (some [x, y]))
    (hs : swapsWithSole [.Tuple [.Name x px, .Name y py] kt pt] (.Tuple [.List [] p0, b] k2 pt2) pos.line X.env = pure false := by rfl)
    (s1 : starEach [.List [] p0, b] X.env = (false, eval (.List [] p0) X.env) :: starEach [b] X.env := by rfl) (s2 : starEach [b] X.env = (false, eval b X.env) :: starEach [] X.env := by rfl) :
    DS X (.Assign [.Tuple [.Name x px, .Name y py] kt pt] (.Tuple [.List [] p0, b] k2 pt2) pos) (tPar i j (tCons (tLst tNil) (tCons te tNil))) (wParF i j we) :=
  ⟨ps_par hc hN hi hj hij hx hy (pa_cons (pe_lst pa_nil) (pa_cons hb.pe pa_nil s2) s1) hw hs, dst_parF hb.dt⟩
variable {tf : TE} {wf : WE}
/-- a, b, c = e, {}, f -/
def wTriD (i j k : Nat) (we wf : WE) : WS := fun Φ δ => i < δ.length ∧ j < δ.length ∧ k < δ.length ∧ we δ fun d => wf δ fun f => Φ.nx (((δ.set i (.d d)).set j (.ownD [])).set k (.d f))
theorem dst_triD {i j k : Nat} (he : DEt K te we) (hf : DEt K tf wf) : DSt K (tAsg (tTup (tCons te (tCons tDNewK (tCons tf tNil)))) (gTup K 3 (gCons (gName i) (gCons (gName j) (gCons (gName k) gNil))))) (wTriD i j k we wf) := by
  refine ⟨fun C M H σ δ D Φ I hw c => ?_⟩
  obtain ⟨hi, hj, hk, hw⟩ := hw
  refine he.run C M H σ δ _ _ I hw fun v d H1 x1 p1 r1 w1 => ?_
  have I1 := I.next x1 p1
  intro a ha
  have I2 := I1.with (o := .dK []) ha
  refine hf.run C _ _ σ δ _ _ I2 w1 fun u f H3 x3 p3 r3 w3 => ?_
  have I3 := I2.next x3 p3
  have h0 := I1.fresh0 ha
  have np : C.p ≠ some a := fun z => by
    obtain ⟨o, e⟩ := I.pH0 _ z
    rw [h0] at e; cases e
  have ha3 : H3 a = some (.dK []) := x3 _ _ upd_same np
  refine ⟨show 3 ≤ sizeLine by decide, fun T hT => ?_⟩
  have I4 := I3.same (same_new (o := .tup [v, .ref a, u]) hT)
  have r1' : Dr K (With M a) H3 v d := (Tr.of_ext I2.pen x3) _ _ (r1.map (With.fresh ha) (Stays.of_same (same_new ha)))
  have up : ∀ {v d}, Dr K (With M a) H3 v d → Dr K (With M a) (upd H3 T (.tup [v, .ref a, u])) v d := fun r => r.stays (Stays.of_same (same_new hT))
  refine ⟨_, _, rfl, SqT.of upd_same, rfl, ?_⟩
  refine ⟨_, _, rfl, _, _, rfl, _, _, rfl, rfl, ?_⟩
  have J1 := I4.put (i := i) (v := v) (sv := .d d) (by rw [← I.len]; exact hi) ⟨_, rfl, r1'.stays (Stays.of_same (same_new hT))⟩ fun _ z => nomatch z
  have J2 := J1.put (i := j) (v := .ref a) (sv := .ownD []) (by rw [List.length_set, ← I.len]; exact hj) ⟨a, [], rfl, .inr rfl, h0, same_new hT _ _ ha3, .nil⟩ fun _ z => nomatch z
  have J3 := J2.put (i := k) (v := u) (sv := .d f) (by rw [List.length_set, List.length_set, ← I.len]; exact hk) ⟨_, rfl, r3.stays (Stays.of_same (same_new hT))⟩ fun _ z => nomatch z
  refine c.nx _ _ _ _ J3 ?_ w3
  exact fun v d r => ((Tr.of_ext I2.pen x3) _ _ (((Tr.of_ext I.pen x1) _ _ r).map (With.fresh ha) (Stays.of_same (same_new ha)))).stays (Stays.of_same (same_new hT))
theorem ds_triD {K' : PySem.W.Frag} {i j k : Nat} {x y z : Str} {a b : Expr} {p0 px py pz pt : Pos} {kt k2 pt2} (hc : X.calm = true) (hN : X.N.Nodup) (hi : X.N[i]? = some x) (hj : X.N[j]? = some y) (hk : X.N[k]? = some z)
    (hx : Loc X.env.scope x) (hy : Loc X.env.scope y) (hz : Loc X.env.scope z) (ha : DE X a te we) (hb : DE X b tf wf)
    (fx : X.fn x = true ∨ X.env.scope.names.lookup x = some .local := by first | exact .inl rfl | exact .inr rfl | assumption)
    (fy : X.fn y = true ∨ X.env.scope.names.lookup y = some .local := by first | exact .inl rfl | exact .inr rfl | assumption)
    (fz : X.fn z = true ∨ X.env.scope.names.lookup z = some .local := by first | exact .inl rfl | exact .inr rfl | assumption)
    (hw : swappedStores [.Tuple [.Name x px, .Name y py, .Name z pz] kt pt] (.Tuple [a, .Dict [] [] p0, b] k2 pt2) X.env = pure none := by rfl)
    (hs : swapsWithSole [.Tuple [.Name x px, .Name y py, .Name z pz] kt pt] (.Tuple [a, .Dict [] [] p0, b] k2 pt2) pos.line X.env = pure false := by rfl)
    (s1 : starEach [a, .Dict [] [] p0, b] X.env = (false, eval a X.env) :: starEach [.Dict [] [] p0, b] X.env := by rfl)
    (s3 : starEach [.Dict [] [] p0, b] X.env = (false, eval (.Dict [] [] p0) X.env) :: starEach [b] X.env := by rfl) (s2 : starEach [b] X.env = (false, eval b X.env) :: starEach [] X.env := by rfl) (hK : X.K = K' := by rfl) :
    DS X (.Assign [.Tuple [.Name x px, .Name y py, .Name z pz] kt pt] (.Tuple [a, .Dict [] [] p0, b] k2 pt2) pos) (tAsg (tTup (tCons te (tCons tDNewK (tCons tf tNil)))) (gTup K' 3 (gCons (gName i) (gCons (gName j) (gCons (gName k) gNil))))) (wTriD i j k we wf) := by
  subst hK
  exact ⟨ps_asg (pe_tup (pa_cons ha.pe (pa_cons pe_dnewK (pa_cons hb.pe pa_nil s2) s3) s1)) (pg_tup hc (pgs_cons (pg_name hN hi hx fx) (pgs_cons (pg_name hN hj hy fy) (pgs_cons (pg_name hN hk hz fz) pgs_nil)))) hs hw, dst_triD ha.dt hb.dt⟩
end
end DL
/-! a list or a tuple times an int -/
namespace DL
open PySem PySem.Spec PyProof.Rows L2
open AutoSeq1 (wpAny_loadPart')
theorem tuple_mul1 (l : Addr) (items : Array Value) (n : Nat) (dd : Option Addr) (sl : Array (Option Value)) (u : Tok) :
    Meets (Builtin.«tuple.__mul__» ⟨[.ref l, .int 1 u], []⟩) (fun _ R s => s.heap.get? l = some { cls := .type "tuple", dict := dd, data := .seq items n, slots := sl } ∧
      R (.ok (.ret (Value.ref l))) s) :=
  .of_wp fun prog w A R s h => by
    obtain ⟨hp, g, d, tk, os⟩ := s
    obtain ⟨hl, h⟩ := h
    have f1 := AutoSeq1.idx_int
    wp_walk using wpAny_loadPart' hl
    repeat (first
      | (refine wpAny_ite_false (by decide) ?_; wp_walk using wpAny_loadPart' hl)
      | (refine wpAny_ite_true (by simp) ?_; wp_walk using wpAny_loadPart' hl))
    exact ⟨_, rfl, h⟩

def rRepS (K : PySem.W.Frag) : R2 := fun x y H Q => ∃ l k xs, x = .ref l ∧ y = .int k ∧ SqT K H l xs ∧ xs ≠ [] ∧ 1 ≤ k ∧ k ≤ 4000 ∧ xs.length ≤ 1000 ∧ (k = 1 → Q (.ref l) H) ∧ (k ≠ 1 → ∀ p, H p = none → Q (.ref p) (upd H p (.tup (List.replicate k.toNat xs).flatten)))
section
variable {X : Cx}
theorem op_repS : OpR X (binaryOp .Mult) (rRepS X.K) := by
  intro pins s σ H x y v u Q I rx ry h
  obtain ⟨l, k, xs, rfl, rfl, hT, hne, h1, h2, hz, q1, q⟩ := h
  cases rx
  obtain ⟨t, rfl⟩ := ry
  obtain ⟨its, r, ⟨⟨cls, dd, data, sl⟩, ho, hc, n, hd⟩, hs⟩ := I.tuple hT
  simp only at hc hd
  subst hc hd
  have hle : its.length = xs.length := r.length.symm
  have hn : its ≠ [] := fun e => hne (by
    rw [e] at hle
    exact List.eq_nil_of_length_eq_zero hle.symm)
  have hi : its.toArray.isEmpty = false := by
    cases its with
    | nil => exact absurd rfl hn
    | cons a b => rfl
  by_cases k1 : k = 1
  · subst k1
    refine wpAny_binaryOp_repeat_ref (T := "tuple") (U := "int") (by decide) ⟨_, ho, rfl⟩ (fun s' => typeIs_int s' 1 t) noFill_tuple_mul F.fills_int_mul F.slot_int_rmul repeat_tuple F.slot_int_index.lookup
      (call_meets F.slot_int_rmul (typeIs_int s 1 t) F.entry_int_rmul (F.args_int_rmul_2 _ _) (int_rmul_tuple 1 t l its.toArray n dd sl)
        ⟨ho, rfl, ⟨_, ho, rfl⟩, call_meets F.slot_tuple_mul ⟨_, ho, rfl⟩ F.entry_tuple_mul (F.args_tuple_mul_2 _ _) (tuple_mul1 l its.toArray n dd sl t) ⟨ho, ?_⟩⟩)
    exact ⟨.ref l, H, I, rfl, q1 rfl⟩
  have hsz0 : its.toArray.size = xs.length := by rw [List.size_toArray, hle]
  have hm : ((its.toArray.size : Nat) : Int) * k ≤ 4000000 := by
    rw [hsz0]
    have a1 : ((xs.length : Nat) : Int) * k ≤ 1000 * k := Int.mul_le_mul_of_nonneg_right (by omega) (by omega)
    omega
  have flen : (List.replicate k.toNat its).flatten.length ≤ sizeLine := by
    rw [PyProof.Rows.lm_len_rep_flat, hle, sizeLine_eq]
    have a1 : k.toNat * xs.length ≤ 4000 * 1000 := Nat.mul_le_mul (by omega) hz
    omega
  have c0 : (decide (k < -(2 ^ 63)) || decide (k ≥ 2 ^ 63)) = false := by
    rw [decide_eq_false (by omega), decide_eq_false (by omega)] <;> rfl
  have c1 : (its.toArray.isEmpty || k == 1) = false := by
    rw [hi, Bool.false_or]
    exact beq_eq_false_iff_ne.mpr k1
  have c2 : (decide (k ≤ 0) || its.toArray.isEmpty) = false := by
    rw [hi, Bool.or_false]
    exact decide_eq_false (by omega)
  have c4 : Builtin.Tuple.tupleTooMany (((its.toArray.size : Nat) : Int) * k) = false := by
    unfold Builtin.Tuple.tupleTooMany
    rw [sizeLine_eq]
    exact decide_eq_false (by omega)
  refine wpAny_binaryOp_repeat_ref (T := "tuple") (U := "int") (by decide) ⟨_, ho, rfl⟩ (fun s' => typeIs_int s' k t) noFill_tuple_mul F.fills_int_mul F.slot_int_rmul repeat_tuple F.slot_int_index.lookup
    (call_meets F.slot_int_rmul (typeIs_int s k t) F.entry_int_rmul (F.args_int_rmul_2 _ _) (int_rmul_tuple k t l its.toArray n dd sl)
      ⟨ho, rfl, ⟨_, ho, rfl⟩, call_meets F.slot_tuple_mul ⟨_, ho, rfl⟩ F.entry_tuple_mul (F.args_tuple_mul_2 _ _) (tuple_mulW l its.toArray n dd sl k t c0 c1 c2 (by omega) c4 (by rw [size_rep, List.size_toArray]; exact flen)) ⟨ho, ?_⟩⟩)
  rw [size_rep]
  refine ⟨.ref s.heap.objs.size, _, I.laid (t' := s.toks) (o := .tup (List.replicate k.toNat xs).flatten) (fun b ob q => Heap.get?_push_of_some _ q) (Nat.le_refl _) ?_, rfl, q k1 _ (I.hok.fresh (Nat.le_refl _))⟩
  exact ⟨by rw [PyProof.Rows.lm_len_rep_flat, sizeLine_eq]; have a1 : k.toNat * xs.length ≤ 4000 * 1000 := Nat.mul_le_mul (by omega) hz; omega, _, r.rep k.toNat, IsTup.new _ _⟩
end
def repD (k : Int) (ds : List PyData) : List PyData := (List.replicate k.toNat ds).flatten
/-- a list or a tuple, not empty, times an int from 1 on -/
def fMulS : W2 := fun d e Φ => match d, e with
  | .tuple ds, .int k => ds ≠ [] ∧ 1 ≤ k ∧ k ≤ 4000 ∧ ds.length ≤ 1000 ∧ Φ (.tuple (repD k ds))
  | .list ds, .int k => ds ≠ [] ∧ 1 ≤ k ∧ k ≤ 4000 ∧ ds.length ≤ 1000 ∧ Φ (.list (repD k ds))
  | _, _ => False
section
variable {K : PySem.W.Frag} {M : Addr → Prop} {H : Hp}
theorem DrA.rep {xs : List V} {ds : List PyData} (r : DrA K M H xs ds) : ∀ n : Nat, DrA K M H (List.replicate n xs).flatten (List.replicate n ds).flatten
  | 0 => .nil
  | n + 1 => by
    rw [List.replicate_succ, List.replicate_succ, List.flatten_cons, List.flatten_cons]
    exact r.append (DrA.rep r n)
theorem r2_mulS : R2d K (fun x y H Q => rRepS K x y H Q ∨ rRep x y H Q) fMulS := by
  intro M H x y d e Q Φ p pv al rx ry hf q
  unfold fMulS at hf
  split at hf
  · obtain ⟨hne, h1, h2, hl, hf⟩ := hf
    cases rx with
    | tup e1 r1 =>
    cases ry
    have len := r1.length
    refine .inl ⟨_, _, _, rfl, rfl, e1, fun z => hne (by rw [z] at len; exact List.eq_nil_of_length_eq_zero len), h1, h2, by rw [← len]; exact hl, fun k1 => ?_, fun k1 a ha => ?_⟩
    · subst k1
      refine q _ _ H (Same.refl H) (.tup e1 r1) ?_
      have e : ∀ l : List PyData, repD 1 l = l := fun l => List.append_nil l
      rw [e] at hf
      exact hf
    · exact q _ _ _ (same_new ha) (.tup (SqT.of upd_same) ((r1.rep _).stays (Stays.of_same (same_new ha)))) hf
  · rename_i ds k
    obtain ⟨hne, h1, h2, hl, hf⟩ := hf
    cases rx with
    | lst n1 e1 r1 =>
    cases ry
    have len := r1.length
    have hx : ∀ a, H a = none → ¬ M a := fun a h m => by
      obtain ⟨o, z⟩ := al a m
      rw [h] at z; cases z
    refine .inr ⟨_, _, _, rfl, rfl, e1, by omega, by omega, ?_, fun a ha => ?_⟩
    · rw [← len, sizeLine_eq]
      have a1 : ds.length * k.toNat ≤ 1000 * 4000 := Nat.mul_le_mul hl (by omega)
      exact Nat.le_trans a1 (by decide)
    · exact q _ _ _ (same_new ha) (.lst (hx a ha) upd_same ((r1.rep _).stays (Stays.of_same (same_new ha)))) hf
  · exact hf.elim
end
section
variable {X : Cx} {a b : Expr} {ta tb : TE} {wa wb : WE} {pos : Pos}
theorem de_mulS {K' : PySem.W.Frag} (ha : DE X a ta wa) (hb : DE X b tb wb) (hK : X.K = K' := by rfl) : DE X (.BinOp a .Mult b pos) (tOp (fun x y H Q => rRepS K' x y H Q ∨ rRep x y H Q) ta tb) (wOp fMulS wa wb) := by
  subst hK
  exact ⟨pe_op (op_repS.or op_rep) ha.pe hb.pe, det_op r2_mulS ha.dt hb.dt⟩
end
section
variable {X : Cx} {a b c : Expr} {ta tb tc : TE} {wa wb wc : WE} {pos : Pos}
theorem dt_lele (ha : DE X a ta wa) (hb : DE X b tb wb) (hc : DE X c tc wc) (hm : lastMarks [.LtE, .LtE] [b, c] = false := by rfl) : DT X (.Compare a [.LtE, .LtE] [b, c] pos) (tTest (tChain (rI0 fun i j => .bl (decide (i ≤ j))) (rI0 fun i j => .bl (decide (i ≤ j))) ta tb tc))
    (wB (wChain (fun i j => decide (i ≤ j)) (fun i j => decide (i ≤ j)) wa wb wc)) := ⟨pt_chain op_le op_le ha.pe hb.pe hc.pe (hm := hm), dtt_b (det_chain ha.dt hb.dt hc.dt)⟩
end
end DL
namespace DL
open PySem PySem.Spec PyProof.Rows L2
local macro_rules | `(tactic| walk_at "dw") => `(tactic| simp only [wSeq, wIfS, wB, wOp, fCmp, wPen, wVar, wPenSet, wArg, wNil, wCons, wCall, f1, f2, wSet, wRet, wRetN, wNx, wAnd, wOr, wUn, wIf, wTru, wNotT, wAndT, wOrT, wC, wData, wTup, wLst, wLc, wIS, wIL, wIT, wFor, wSl, wPar, wAsg, wgName, wgTup, wgNil, wgCons, wOwn, wApp, wExt, wFrz, frz, wDrop, wYes, wLc2, wDc, wSortSet, wLenSet, wLenSetT, wSortSetN, wParO, wLenL, wDget, wZip, wZip3, wParF, wTriD, wOwnD, wFrzD, DL.frzD, wLenO, wIxO, wChain, wDef, wNever, fLen, allD, Option.map_some, wipeD,
    List.map_cons, List.map_nil, List.cons_append, List.nil_append, List.append_nil, List.replicate_succ, List.replicate_zero, List.getElem?_cons_zero, List.getElem?_cons_succ, List.set_cons_zero, List.set_cons_succ, List.length_cons, List.length_nil, Nat.reduceAdd, Nat.reduceSub, List.getElem?_nil, Int.reduceEq, if_true, if_false, reduceIte, fI_int, fAdd_int, fAdd_str, fAdd_list, fAdd_tuple, asI_int, asB_bool, fSl_list, fSl_tuple, fEq_str, fNe_str, fNe_list, fEq_list, fEq_int, fEq_unit, fNe_int, shaped_int, Bool.false_eq_true, true_or, or_true, true_and, and_true, false_or, or_false])
local macro_rules | `(tactic| walk_at "dx") => `(tactic| simp only [wSeq, wIfS, wB, wOp, fCmp, wPen, wVar, wPenSet, wArg, wNil, wCons, wCall, f1, f2, wSet, wRet, wRetN, wNx, wAnd, wOr, wUn, wIf, wTru, wNotT, wAndT, wOrT, wC, wData, wTup, wLst, wLc, wIS, wIL, wIT, wFor, wSl, wPar, wAsg, wgName, wgTup, wgNil, wgCons, wOwn, wApp, wExt, wFrz, frz, wDrop, wYes, wLc2, wDc, wSortSet, wLenSet, wLenSetT, wSortSetN, wParO, wLenL, wDget, wZip, wZip3, wParF, wTriD, wOwnD, wFrzD, DL.frzD, wLenO, wIxO, wChain, wDef, wNever, fLen, allD, Option.map_some, wipeD,
    List.map_cons, List.map_nil, List.cons_append, List.nil_append, List.append_nil, List.replicate_succ, List.replicate_zero, List.getElem?_cons_zero, List.getElem?_cons_succ, List.set_cons_zero, List.set_cons_succ, List.length_cons, List.length_nil, Nat.reduceAdd, Nat.reduceSub, List.getElem?_nil, Int.reduceEq, if_true, if_false, reduceIte, fI_int, fAdd_int, fAdd_str, fAdd_list, fAdd_tuple, asI_int, asB_bool, fSl_list, fSl_tuple, fEq_str, fNe_str, fNe_list, fEq_list, fEq_int, fEq_unit, fNe_int, shaped_int, Bool.false_eq_true, true_or, or_true, true_and, and_true, false_or, or_false, fIsi_intE, fIsi_boolE, fIsi_tupleE, isIntB, isBoolB, isTupB, truD, Bool.not_false, Bool.not_true])
def topS (i : Nat) : Stmt := PySem.Challenge.pw_nevergoback_k25_visits_and_journeys_judg.main.body.getD i (.Pass ⟨0, 0, 0, 0⟩)
section
variable {P : Program} {w : World} {K : PySem.W.Frag} {mg : Str → Option Value} {base : Heap}
abbrev s_is_number : Stmt := topS 1
theorem sc_is_number : FnScope ["value"] ["value"] (defScope s_is_number) := ⟨rfl, rfl, rfl, by decide +kernel, rfl, by decide +kernel, by decide +kernel⟩
def w_is_number : WFn := f1 fun d Φ => Φ (.bool (numB d))
theorem ok_is_number (B : Blt mg) (hs : ∃ o, base.get? sysModules = some o)   (F : HasDef K mg "is_number" s_is_number ["value"]) : DefD P w K mg base 1 "is_number" 1 w_is_number := by
  refine F.ok (k := 0) sc_is_number fun f cdv A outer s H E hr gd => ⟨_, _, (dss_one (ds_ret (de_and (de_isi (T := "int") B.b_isinstance B.b_int (dv 0) (by decide +kernel)) (de_one (de_not (de_isi (T := "bool") B.b_isinstance B.b_bool (dv 0) (by decide +kernel))))))), ?_⟩
  intro svs Φ hl hw
  replace hw := f1_out hw
  obtain ⟨d, rfl, hw⟩ := hw
  rw [numB_eq] at hw
  walk_at "dw"
  refine fIsi_int ?_
  simp only [asB]
  split
  · rename_i h
    rw [h] at hw
    exact fIsi_bool (by simpa using hw)
  · rename_i h
    rw [Bool.eq_false_iff.mpr h] at hw
    exact hw

/-- a tuple of even length, its halves exchanged -/
def turnD (ds : List PyData) : List PyData := ds.drop (ds.length / 2) ++ ds.take (ds.length / 2)
theorem cut_from {α : Type} (xs : List α) (k : Nat) (h : k ≤ xs.length) : cutD xs (some (k : Int)) none = xs.drop k := by
  unfold cutD
  rw [HT.sIx_nat, HT.sIx_none, Nat.min_eq_left h, List.take_of_length_le (by rw [List.length_drop]; omega)]
theorem cut_to {α : Type} (xs : List α) (k : Nat) (h : k ≤ xs.length) : cutD xs none (some (k : Int)) = xs.take k := by
  unfold cutD
  rw [HT.sIx_nat, HT.sIx_none, Nat.min_eq_left h, List.drop_zero, Nat.sub_zero]
def w_turned : WFn := f1 fun d Φ => ∃ ds, d = .tuple ds ∧ ds.length ≤ 1000 ∧ Φ (.tuple (turnD ds))

abbrev s__law_fresh : Stmt := topS 16
theorem sc__law_fresh : FnScope ["pen", "seat", "given", "cell", "prime", "state", "found", "lap"] ["pen"] (defScope s__law_fresh) := ⟨rfl, rfl, rfl, by decide +kernel, rfl, by decide +kernel, by decide +kernel⟩
def w__law_fresh : WFn := fun svs Φ => match svs with
  | [.pen] => ∀ r : Int, 0 ≤ r → Φ (.int r)
  | _ => False
theorem ok__law_fresh (B : Blt mg) (hs : ∃ o, base.get? sysModules = some o)   (F : HasDef K mg "_law_fresh" s__law_fresh ["pen"]) : DefD P w K mg base 1 "_law_fresh" 1 w__law_fresh := by
  refine F.ok (k := 0) sc__law_fresh fun f cdv A outer s H E hr gd => ⟨_, _, (dss_cons (ds_par (i := 1) (j := 2) rfl sc__law_fresh.nd rfl rfl (by decide) rfl rfl (da_cons (de_pen 0) (da_cons (de_pen 0) da_nil)) (by rfl))
      (dss_cons (ds_penSet 0 (de_add (dv 1) de_int))
      (dss_cons (ds_set (i := 3) sc__law_fresh.nd rfl (by first | exact Or.inl rfl | exact Or.inr rfl) (de_if (dt_ne hr.units (dv 2) (DF.to (df_lst da_nil))) (de_ix (dv 2) (de_mod (de_intc B.b_int (da_cons (dv 1) da_nil)) (de_len B.b_len (da_cons (dv 2) da_nil)))) de_int))
      (dss_cons (ds_if (DW.dt' (dw_and (dt_lt (dv 1) (de_len B.b_len (da_cons (dv 2) da_nil))) (dw_and1 (dt_ge (dv 3) (de_pow de_int de_int))))) (dss_one (ds_ret (de_sub (dv 3) (de_pow de_int de_int)))) dss_nil)
      (dss_cons (ds_set (i := 4) sc__law_fresh.nd rfl (by first | exact Or.inl rfl | exact Or.inr rfl) de_int)
      (dss_cons (ds_set (i := 5) sc__law_fresh.nd rfl (by first | exact Or.inl rfl | exact Or.inr rfl) (de_mod (de_intc B.b_int (da_cons (de_add (de_add (de_mul (dv 3) de_int) (de_mul de_int (dv 1))) de_int) da_nil)) (dv 4)))
      (dss_cons (ds_set (i := 6) sc__law_fresh.nd rfl (by first | exact Or.inl rfl | exact Or.inr rfl) (dv 5))
      (dss_cons (ds_for PassesOwn.never rfl (di_range1 rfl B.b_range (da_cons de_int da_nil)) (dg_name (i := 7) sc__law_fresh.nd rfl (by first | exact Or.inl rfl | exact Or.inr rfl)) (dss_cons (ds_set (i := 5) sc__law_fresh.nd rfl (by first | exact Or.inl rfl | exact Or.inr rfl) (de_mod (de_intc B.b_int (da_cons (de_add (de_add (de_mul (dv 5) (dv 5)) (de_mul (de_mul de_int (de_add (dv 7) de_int)) (de_add (dv 1) de_int))) (dv 3)) da_nil)) (dv 4)))
      (dss_one (ds_set (i := 6) sc__law_fresh.nd rfl (by first | exact Or.inl rfl | exact Or.inr rfl) (de_add (de_mul (dv 6) (dv 4)) (dv 5))))))
      (dss_one (ds_ret (dv 6))))))))))), ?_⟩
  intro svs Φ hl hw
  unfold w__law_fresh at hw
  split at hw
  · walk_at "dw"
    intro b hb ns hns
    have e18 : (10 : Int) ^ (18 : Int).toNat = 1000000000000000000 := by decide
    have hp : CPow 10 18 := ⟨by decide, by decide, by decide⟩
    refine ⟨by omega, Nat.zero_le _, shaped_ints_l ns, shaped_nil_l, ?_⟩
    rw [show PyData.eqv (.list (ns.map .int)) (.list []) = decide (ns = []) from eqv_ints_l ns []]
    simp only [List.length_map]
    have tail : ∀ c : Int, CMulD c 48271 ∧ CMulD 60013 b := fun c => ⟨cmul_r ⟨by decide, by decide⟩, cmul_l ⟨by decide, by decide⟩⟩
    have loop : ∀ (c st0 : Int), 0 ≤ st0 → st0 < 2305843009213693951 → forW (wgName 7) (wSeq (wSet 5 (wOp (fI (fun _ j => 0 < j) fun i j => .int (i % j))
        (wCall (f1 fun d Φ => asI d fun i => Φ (.int i)) (wCons (wOp fAdd (wOp fAdd (wOp (fI CMulD fun i j => .int (i * j)) (wVar 5) (wVar 5)) (wOp (fI CMulD fun i j => .int (i * j))
          (wOp (fI CMulD fun i j => .int (i * j)) (wC (.int 70139)) (wOp fAdd (wVar 7) (wC (.int 5)))) (wOp fAdd (wVar 1) (wC (.int 1))))) (wVar 3)) wNil)) (wVar 4)))
        (wSet 6 (wOp fAdd (wOp (fI CMulD fun i j => .int (i * j)) (wVar 6) (wVar 4)) (wVar 5)))) (upto 0 (Int.toNat 6)) { nx := wRet (wVar 6) { nx := fun _ => Φ .none, rt := Φ }, rt := Φ }
        [.pen, .d (.int b), .d (.list (ns.map .int)), .d (.int c), .d (.int 2305843009213693951), .d (.int st0), .d (.int st0), .un] := fun c st0 h0 h1 => by
      refine forW_ind (fun i δ => ∃ st fd lap, 0 ≤ st ∧ st < 2305843009213693951 ∧ 0 ≤ fd ∧ δ = [.pen, .d (.int b), .d (.list (ns.map .int)), .d (.int c), .d (.int 2305843009213693951), .d (.int st), .d (.int fd), lap]) ⟨st0, st0, .un, h0, h1, h0, rfl⟩ ?_ ?_
      · rintro i x δ k hx ⟨st, fd, lap, s0, s1, f0, rfl⟩ hk
        obtain ⟨rfl, hi⟩ := upto_get hx
        have hi6 : i < 6 := hi
        walk_at "dw"
        refine ⟨cmul_l ⟨by omega, by omega⟩, cmul_l ⟨by decide, by decide⟩, cmul_l ⟨by omega, by omega⟩, by decide, cmul_r ⟨by decide, by decide⟩, ?_⟩
        refine hk _ ⟨_, _, _, Int.emod_nonneg _ (by decide), Int.emod_lt_of_pos _ (by decide), ?_, rfl⟩
        have m0 := Int.emod_nonneg (st * st + 70139 * (0 + (i : Int) + 5) * (b + 1) + c) (show (2305843009213693951 : Int) ≠ 0 by decide)
        have m1 : 0 ≤ fd * 2305843009213693951 := Int.mul_nonneg f0 (by decide)
        omega
      · rintro δ ⟨st, fd, lap, s0, s1, f0, rfl⟩
        walk_at "dw"
        exact hw fd f0
    have fin : ∀ c : Int, (0 : Int) < 2305843009213693951 ∧ -2 ^ 62 ≤ (6 : Int) ∧ (6 : Int) < 2 ^ 62 ∧ forW (wgName 7) _ _ _ _ := fun c => ⟨by decide, by decide, by decide, loop c ((c * 48271 + 60013 * b + 31) % 2305843009213693951) (Int.emod_nonneg _ (by decide)) (Int.emod_lt_of_pos _ (by decide))⟩
    by_cases hn : ns = []
    · subst hn
      simp only [decide_true, Bool.not_true, Bool.false_eq_true, if_false, List.length_nil, List.map_nil]
      by_cases hbl : b < ((0 : Nat) : Int)
      · omega
      · simp only [hbl, decide_false, Bool.false_eq_true, if_false]
        exact ⟨(tail 0).1, (tail 0).2, fin 0⟩
    · simp only [hn, decide_false, Bool.not_false, if_true]
      have hlen : 0 < ns.length := List.length_pos_iff.mpr hn
      refine ⟨by omega, ?_⟩
      obtain ⟨y, hy, hm⟩ := atI_of (xs := ns.map PyData.int) (Int.emod_nonneg b (show ((ns.length : Nat) : Int) ≠ 0 by omega)) (by rw [List.length_map]; exact Int.emod_lt_of_pos _ (by omega))
      obtain ⟨c, _, rfl⟩ := List.mem_map.mp hm
      refine ⟨_, hy, ?_⟩
      walk_at "dw"
      by_cases hbl : b < (ns.length : Int)
      · simp only [hbl, decide_true, if_true, e18]
        refine ⟨hp, ?_⟩
        by_cases hc : (1000000000000000000 : Int) ≤ c
        · simp only [hc, decide_true, if_true]
          exact ⟨hp, hw _ (by omega)⟩
        · simp only [hc, decide_false, Bool.false_eq_true, if_false]
          exact ⟨(tail c).1, (tail c).2, fin c⟩
      · simp only [hbl, decide_false, Bool.false_eq_true, if_false]
        exact ⟨(tail c).1, (tail c).2, fin c⟩
  · exact hw.elim

abbrev s__law_draw : Stmt := topS 17
theorem sc__law_draw : FnScope ["pen", "bound", "digit"] ["pen", "bound"] (defScope s__law_draw) := ⟨rfl, rfl, rfl, by decide +kernel, rfl, by decide +kernel, by decide +kernel⟩
theorem small_nat {i : Int} (h : i.natAbs < 2 ^ 10) : i.natAbs < 2 ^ 9000 := Nat.lt_of_lt_of_le h (Nat.pow_le_pow_right (by decide) (by decide))
/-- a draw gives some number below the bound -/
def w__law_draw : WFn := fun svs Φ => match svs with
  | [.pen, .d (.int b)] => 0 < b ∧ b.natAbs < 2 ^ 9000 ∧ ∀ r : Int, 0 ≤ r → r < b → Φ (.int r)
  | _ => False
theorem ok__law_draw (B : Blt mg) (hs : ∃ o, base.get? sysModules = some o) (D__law_fresh : DefD P w K mg base 1 "_law_fresh" 1 w__law_fresh)  (F : HasDef K mg "_law_draw" s__law_draw ["pen", "bound"]) : DefD P w K mg base 2 "_law_draw" 2 w__law_draw := by
  refine F.ok (k := 1) sc__law_draw fun f cdv A outer s H E hr gd => ⟨_, _, (dss_cons (ds_if (dt_lt (de_pen 0) (dv 1)) (dss_one (ds_penSet 0 (D__law_fresh.call hr (by decide) gd (da_arg 0 da_nil)))) dss_nil)
      (dss_cons (ds_set (i := 2) sc__law_draw.nd rfl (by first | exact Or.inl rfl | exact Or.inr rfl) (de_mod (de_intc B.b_int (da_cons (de_pen 0) da_nil)) (dv 1)))
      (dss_cons (ds_penSet 0 (de_fdiv (de_intc B.b_int (da_cons (de_pen 0) da_nil)) (dv 1)))
      (dss_one (ds_ret (dv 2)))))), ?_⟩
  intro svs Φ hl hw
  unfold w__law_draw at hw
  split at hw
  · rename_i b
    obtain ⟨h0, h1, hw⟩ := hw
    walk_at "dw"
    intro bank hb
    have rest : ∀ b₂ : Int, 0 ≤ b₂ → (0 < b ∧ ∀ b₃ : Int, 0 ≤ b₃ → CDivW b₃ b ∧ 0 ≤ b₃ / b ∧ Φ (.int (b₂ % b))) := fun b₂ hb₂ => ⟨h0, fun b₃ hb₃ => ⟨wide_div h0 h1 (by decide) (by decide), Int.ediv_nonneg hb₃ (by omega), hw (b₂ % b) (Int.emod_nonneg _ (by omega)) (Int.emod_lt_of_pos _ h0)⟩⟩
    by_cases hlt : bank < b
    · simp only [hlt, decide_true, if_true]
      exact fun r hr => ⟨hr, rest⟩
    · simp only [hlt, decide_false, Bool.false_eq_true, if_false]
      exact rest
  · exact hw.elim

abbrev s__law_one_of : Stmt := topS 18
theorem sc__law_one_of : FnScope ["pen", "some"] ["pen", "some"] (defScope s__law_one_of) := ⟨rfl, rfl, rfl, by decide +kernel, rfl, by decide +kernel, by decide +kernel⟩
def w__law_one_of : WFn := fun svs Φ => match svs with
  | [.pen, .d (.list ds)] => ds ≠ [] ∧ ds.length ≤ 1000 ∧ ∀ d ∈ ds, Φ d
  | [.pen, .d (.tuple ds)] => ds ≠ [] ∧ ds.length ≤ 1000 ∧ ∀ d ∈ ds, Φ d
  | _ => False
theorem ok__law_one_of (B : Blt mg) (hs : ∃ o, base.get? sysModules = some o) (D__law_draw : DefD P w K mg base 2 "_law_draw" 2 w__law_draw)  (F : HasDef K mg "_law_one_of" s__law_one_of ["pen", "some"]) : DefD P w K mg base 3 "_law_one_of" 2 w__law_one_of := by
  refine F.ok (k := 2) sc__law_one_of fun f cdv A outer s H E hr gd => ⟨_, _, (dss_one (ds_ret (de_ix (dv 1) (D__law_draw.call hr (by decide) gd (da_arg 0 (da_cons (de_len B.b_len (da_cons (dv 1) da_nil)) da_nil)))))), ?_⟩
  intro svs Φ hl hw
  unfold w__law_one_of at hw
  split at hw
  all_goals first
    | (walk_at "dw"
       refine ⟨by have := List.length_pos_iff.mpr hw.1; omega, ?_, fun r h0 h1 => ?_⟩
       · have := hw.2.1
         exact small_nat (by omega)
       · obtain ⟨y, hy, hm⟩ := atI_of h0 h1
         exact ⟨_, hy, hw.2.2 _ hm⟩)
    | exact hw.elim

abbrev s__law_ranks : Stmt := topS 19
theorem sc__law_ranks : FnScope ["numbers", "number", "other"] ["numbers"] (defScope s__law_ranks) := ⟨rfl, rfl, rfl, by decide +kernel, rfl, by decide +kernel, by decide +kernel⟩
/-- the function on ints, none elsewhere -/
def onI (f : Int → PyData) : PyData → PyData
  | .int i => f i
  | d => d
def onIB (f : Int → Bool) : PyData → Bool
  | .int i => f i
  | _ => false
theorem map_onI (f : Int → PyData) (ns : List Int) : (ns.map PyData.int).map (onI f) = ns.map f := by rw [List.map_map]; rfl
theorem filter_onI (p : Int → Bool) : ∀ ns : List Int, ((ns.map PyData.int).filter (onIB p)) = (ns.filter p).map .int
  | [] => rfl
  | n :: r => by
    cases e : p n
    · rw [List.filter_cons_of_neg (by simpa using e), List.map_cons, List.filter_cons_of_neg (by simpa [onIB] using e), filter_onI p r]
    · rw [List.filter_cons_of_pos e, List.map_cons, List.filter_cons_of_pos (by simpa [onIB] using e), filter_onI p r, List.map_cons]
def w__law_ranks : WFn := f1 fun d Φ => ∃ ns : List Int, (d = .list (ns.map .int) ∨ d = .tuple (ns.map .int)) ∧ ns.length ≤ 4000 ∧ Φ (tupI (ranks ns))
theorem ok__law_ranks (B : Blt mg) (hs : ∃ o, base.get? sysModules = some o)   (F : HasDef K mg "_law_ranks" s__law_ranks ["numbers"]) : DefD P w K mg base 1 "_law_ranks" 1 w__law_ranks := by
  refine F.ok (k := 0) sc__law_ranks fun f cdv A outer s H E hr gd => ⟨_, _, (dss_one (ds_ret (de_tuple B.b_tuple (da_cons (DF.to (df_lc (own := [("number", 1)]) rfl sc__law_ranks.nd (di_seq (dv 0)) (blkOk_by (N := ["numbers", "number", "other"]) (sc := (defScope s__law_ranks)) (own := [("number", 1)]) (by decide +kernel)) (by decide) (fun _ _ _ _ _ => (dg_name (i := 1) sc__law_ranks.nd rfl (by first | exact Or.inl rfl | exact Or.inr rfl))) (fun _ _ _ _ _ => dts_nil) (fun _ _ _ _ _ => (de_lenSet rfl B.b_len B.b_set (DF.to (df_lc (own := [("other", 2)]) rfl sc__law_ranks.nd (di_seq (dv 0)) (blkOk_by (N := ["numbers", "number", "other"]) (sc := (relS _ (defScope s__law_ranks))) (own := [("other", 2)]) (by decide +kernel)) (by decide) (fun _ _ _ _ _ => (dg_name (i := 2) sc__law_ranks.nd rfl (by first | exact Or.inl rfl | exact Or.inr rfl))) (fun _ _ _ _ _ => (dts_one (dt_lt (dv 2) (dv 1)))) (fun _ _ _ _ _ => (dv 2)))))))) da_nil)))), ?_⟩
  intro svs Φ hl hw
  replace hw := f1_out hw
  obtain ⟨d, rfl, ns, hd, hn, hw⟩ := hw
  have hn' : ns.length ≤ sizeLine := small_line (by omega)
  have inner : ∀ (x : Int) (Ψ : List PyData → Prop), Ψ ((ns.filter fun y => decide (y < x)).map .int) →
      lcW (wgName 2) (wB (wOp (fI (fun _ _ => True) fun i j => .bool (decide (i < j))) (wVar 2) (wVar 1))) (wVar 2) [.d d, .d (.int x), .un] (ns.map .int) [] Ψ := fun x Ψ h => by
    refine lcW_filterMap (onIB fun y => decide (y < x)) id _ [] (fun e hm yes no hy hn => ?_) (by simpa using hn') (by rw [List.map_id, filter_onI]; exact h)
    obtain ⟨i, _, rfl⟩ := List.mem_map.mp hm
    walk_at "dw"
    split
    · rename_i c; exact hy c
    · rename_i c; exact hn (Bool.eq_false_iff.mpr c)
  have outer : ∀ Ψ : List PyData → Prop, Ψ ((ranks ns).map .int) → lcW (wgName 1) wYes
      (wLenSet fun δ Φ =>
        match δ[0]? with
        | some (SV.d x) =>
          match x with
          | PyData.list ds =>
            lcW (wgName 2) (wB (wOp (fI (fun x x_1 => True) fun i j => PyData.bool (decide (i < j))) (wVar 2) (wVar 1)))
              (wVar 2) (List.set δ 2 SV.un) ds [] fun ds => Φ (PyData.list ds)
          | PyData.tuple ds =>
            lcW (wgName 2) (wB (wOp (fI (fun x x_1 => True) fun i j => PyData.bool (decide (i < j))) (wVar 2) (wVar 1)))
              (wVar 2) (List.set δ 2 SV.un) ds [] fun ds => Φ (PyData.list ds)
          | x => False
        | x => False)
      [SV.d d, SV.un, SV.un] (ns.map .int) [] Ψ := fun Ψ h => by
    refine lcW_map (onI fun x => .int (rankOf ns x : Nat)) (fun e hm yes hy => ?_) (by simpa using hn') (by rw [map_onI]; unfold ranks at h; rw [List.map_map] at h; exact h)
    obtain ⟨x, _, rfl⟩ := List.mem_map.mp hm
    walk_at "dw"
    have go := inner x (fun ds => ∃ ns' : List Int, PyData.list ds = .list (ns'.map .int) ∧ ns'.length ≤ 4000 ∧ yes (.int ((sortD ns').length : Nat))) ⟨_, rfl, Nat.le_trans (List.length_filter_le ..) hn, hy⟩
    rcases hd with rfl | rfl <;> exact go
  walk_at "dw"
  rcases hd with rfl | rfl <;> exact outer _ hw

abbrev s_order_of : Stmt := topS 2
theorem sc_order_of : FnScope ["numbers", "ranks", "rank", "number"] ["numbers"] (defScope s_order_of) := ⟨rfl, rfl, rfl, by decide +kernel, rfl, by decide +kernel, by decide +kernel⟩
/-- each number's place -/
def placeKd (off : Nat) (l : List Int) : List (Key × PyData) := (l.zipIdx off).map fun p => (.inl p.1, .int (p.2 : Nat))
theorem dGet_place : ∀ {l : List Int} {off i : Nat} {x : Int}, l.Nodup → l[i]? = some x → dGet (placeKd off l) (.inl x) = some (.int ((off + i : Nat) : Int))
  | [], _, _, _, _, h => by simp at h
  | a :: l, off, 0, x, _, h => by
    have e : a = x := by simpa using h
    subst e
    simp [placeKd, dGet]
  | a :: l, off, i + 1, x, hn, h => by
    have hx : l[i]? = some x := by simpa using h
    have hn' := List.nodup_cons.mp hn
    have ne : a ≠ x := fun e => hn'.1 (e ▸ List.mem_of_getElem? hx)
    have := dGet_place (off := off + 1) hn'.2 hx
    unfold dGet placeKd at this ⊢
    rw [List.zipIdx_cons, List.map_cons, List.find?_cons_of_neg (by simpa using ne), this, show off + 1 + i = off + (i + 1) by omega]
theorem dcW_place {a b : SV} {Φ : List (Key × PyData) → Prop} : ∀ (l : List Int) (off : Nat) (kd : List (Key × PyData)), (∀ x ∈ l, (kd.any fun p => decide (p.1 = .inl x)) = false) → l.Nodup → kd.length + l.length ≤ sizeLine →
    Φ (kd ++ placeKd off l) → dcW (wgTup 2 (wgCons (wgName 2) (wgCons (wgName 3) wgNil))) wYes (wVar 3) (wVar 2) [a, b, .un, .un] (((l.map PyData.int).zipIdx off).map fun p => .tuple [.int (p.2 : Nat), p.1]) kd Φ
  | [], off, kd, _, _, _, h => by simpa [dcW, placeKd] using h
  | x :: l, off, kd, hf, hn, hl, h => by
    have hn' := List.nodup_cons.mp hn
    rw [List.length_cons] at hl
    rw [List.map_cons, List.zipIdx_cons, List.map_cons]
    unfold dcW
    walk_at "dw"
    refine ⟨.inl x, rfl, by omega, ?_⟩
    have e : dPut kd (.inl x) (.int (off : Nat)) = kd ++ [(.inl x, .int (off : Nat))] := by
      unfold dPut
      rw [hf x (List.mem_cons_self ..)]
      rfl
    rw [e]
    refine dcW_place l (off + 1) _ (fun y hy => ?_) hn'.2 (by rw [List.length_append, List.length_singleton]; omega) ?_
    · have ne : x ≠ y := fun e => hn'.1 (e ▸ hy)
      rw [List.any_append, hf y (List.mem_cons_of_mem _ hy)]
      simpa using ne
    · rwa [List.append_assoc, List.singleton_append]
def w_order_of : WFn := f1 fun d Φ => ∃ ns : List Int, d = tupI ns ∧ ns.length < 64 ∧ Φ (tupI (ranks ns))
theorem ok_order_of (B : Blt mg) (hs : ∃ o, base.get? sysModules = some o)   (F : HasDef K mg "order_of" s_order_of ["numbers"]) : DefD P w K mg base 1 "order_of" 1 w_order_of := by
  refine F.ok (k := 0) sc_order_of fun f cdv A outer s H E hr gd => ⟨_, _, (dss_cons (ds_set (i := 1) sc_order_of.nd rfl (by first | exact Or.inl rfl | exact Or.inr rfl) (de_dc (own := [("rank", 2), ("number", 3)]) rfl sc_order_of.nd (di_enum rfl B.b_enumerate (da_cons (de_sortSet rfl B.b_sorted B.b_set (dv 0)) da_nil)) (blkOk_by (N := ["numbers", "ranks", "rank", "number"]) (sc := (defScope s_order_of)) (own := [("rank", 2), ("number", 3)]) (by decide +kernel)) (by decide) (fun _ _ _ _ _ => (dg_tup (n := 2) rfl (dgs_cons (dg_name (i := 2) sc_order_of.nd rfl (by first | exact Or.inl rfl | exact Or.inr rfl)) (dgs_cons (dg_name (i := 3) sc_order_of.nd rfl (by first | exact Or.inl rfl | exact Or.inr rfl)) dgs_nil)))) (fun _ _ _ _ _ => dts_nil) (fun _ _ _ _ _ => (dv 3)) (fun _ _ _ _ _ => (dv 2))))
      (dss_one (ds_ret (de_tuple B.b_tuple (da_cons (DF.to (df_lc (own := [("number", 3)]) rfl sc_order_of.nd (di_seq (dv 0)) (blkOk_by (N := ["numbers", "ranks", "rank", "number"]) (sc := (defScope s_order_of)) (own := [("number", 3)]) (by decide +kernel)) (by decide) (fun _ _ _ _ _ => (dg_name (i := 3) sc_order_of.nd rfl (by first | exact Or.inl rfl | exact Or.inr rfl))) (fun _ _ _ _ _ => dts_nil) (fun _ _ _ _ _ => (de_dget (hu_of hr) (dv 1) (dv 3))))) da_nil))))), ?_⟩
  intro svs Φ hl hw
  replace hw := f1_out hw
  obtain ⟨d, rfl, ns, rfl, hn, hw⟩ := hw
  walk_at "dw"
  have sl := sortD_len ns
  have nd := up_nodup (sortD_up ns)
  refine ⟨ns, rfl, hn, dcW_place (sortD ns) 0 [] (fun x _ => rfl) nd (small_line (by rw [List.length_nil]; omega)) ?_⟩
  rw [List.nil_append]
  show lcW _ _ _ _ (ns.map .int) [] _
  refine lcW_map (onI fun x => .int (rankOf ns x : Nat)) (fun e hm yes hy => ?_) (small_line (by rw [List.length_map]; omega)) (by rw [map_onI]; unfold ranks tupI at hw; rw [List.map_map] at hw; exact hw)
  obtain ⟨x, hx, rfl⟩ := List.mem_map.mp hm
  walk_at "dw"
  obtain ⟨i, hi⟩ := List.mem_iff_getElem?.mp (mem_sortD.mpr hx)
  refine ⟨_, .inl x, _, rfl, rfl, dGet_place nd hi, ?_⟩
  rw [Nat.zero_add, ← rankOf_place hi]
  exact hy

abbrev s__law_half : Stmt := topS 20
theorem sc__law_half : FnScope ["ranks", "at", "many"] ["ranks", "at"] (defScope s__law_half) := ⟨rfl, rfl, rfl, by decide +kernel, rfl, by decide +kernel, by decide +kernel⟩
def w__law_half : WFn := f2 fun d e Φ => ∃ ds i, d = .tuple ds ∧ e = .int i ∧ ds.length ≤ 1000 ∧ Φ (.tuple (if i = 0 then ds.take (ds.length / 2) else ds.drop (ds.length / 2)))
theorem ok__law_half (B : Blt mg) (hs : ∃ o, base.get? sysModules = some o)   (F : HasDef K mg "_law_half" s__law_half ["ranks", "at"]) : DefD P w K mg base 1 "_law_half" 2 w__law_half := by
  refine F.ok (k := 0) sc__law_half fun f cdv A outer s H E hr gd => ⟨_, _, (dss_cons (ds_set (i := 2) sc__law_half.nd rfl (by first | exact Or.inl rfl | exact Or.inr rfl) (de_fdiv (de_len B.b_len (da_cons (dv 0) da_nil)) de_int))
      (dss_one (ds_ret (de_if (dt_eq hr.units (dv 1) de_int) (de_sl (dv 0) do_none (do_some (dv 2))) (de_sl (dv 0) (do_some (dv 2)) do_none))))), ?_⟩
  intro svs Φ hl hw
  replace hw := f2_out hw
  obtain ⟨d, e, rfl, ds, i, rfl, rfl, hn, hw⟩ := hw
  walk_at "dw"
  have e : ((ds.length : Nat) : Int) / 2 = ((ds.length / 2 : Nat) : Int) := by omega
  rw [e, cut_from _ _ (by omega), cut_to _ _ (by omega)]
  refine ⟨⟨by decide, by decide⟩, ?_⟩
  by_cases c : i = 0
  · subst c
    simpa using hw
  · rw [if_neg c] at hw
    rw [if_neg (by simpa using c)]
    exact hw

abbrev s__law_some_order : Stmt := topS 21
theorem sc__law_some_order : FnScope ["pen", "many", "lap"] ["pen", "many"] (defScope s__law_some_order) := ⟨rfl, rfl, rfl, by decide +kernel, rfl, by decide +kernel, by decide +kernel⟩
/-- some order of two nodes of so many numbers -/
def w__law_some_order : WFn := fun svs Φ => match svs with
  | [.pen, .d (.int m)] => 0 < m ∧ m ≤ 500 ∧ ∀ ns : List Int, ns.length = (2 * m).toNat → Φ (tupI (ranks ns))
  | _ => False
theorem ok__law_some_order (B : Blt mg) (hs : ∃ o, base.get? sysModules = some o) (D__law_ranks : DefD P w K mg base 1 "_law_ranks" 1 w__law_ranks) (D__law_draw : DefD P w K mg base 2 "_law_draw" 2 w__law_draw)  (F : HasDef K mg "_law_some_order" s__law_some_order ["pen", "many"]) : DefD P w K mg base 3 "_law_some_order" 2 w__law_some_order := by
  refine F.ok (k := 2) sc__law_some_order fun f cdv A outer s H E hr gd => ⟨_, _, (dss_one (ds_ret (D__law_ranks.call hr (by decide) gd (da_cons (DF.to (df_lc (own := [("lap", 2)]) rfl sc__law_some_order.nd (di_range1 rfl B.b_range (da_cons (de_mul de_int (dv 1)) da_nil)) (blkOk_by (N := ["pen", "many", "lap"]) (sc := (defScope s__law_some_order)) (own := [("lap", 2)]) (by decide +kernel)) (by decide) (fun _ _ _ _ _ => (dg_name (i := 2) sc__law_some_order.nd rfl (by first | exact Or.inl rfl | exact Or.inr rfl))) (fun _ _ _ _ _ => dts_nil) (fun _ _ _ _ _ => (D__law_draw.call hr (by decide) gd (da_arg 0 (da_cons (de_mul de_int (dv 1)) da_nil)))))) da_nil)))), ?_⟩
  intro svs Φ hl hw
  unfold w__law_some_order at hw
  split at hw
  · walk_at "dw"
    rename_i m
    obtain ⟨m0, m1, hw⟩ := hw
    refine ⟨cmul_l ⟨by decide, by decide⟩, by omega, by omega, ?_⟩
    refine lcW_ind (fun i acc => ∃ ns : List Int, ns.length = i ∧ acc = ns.map .int) ⟨[], rfl, rfl⟩ (fun i x acc k hx ih hk => ?_) (fun acc ih => ?_)
    · obtain ⟨rfl, hi⟩ := upto_get hx
      obtain ⟨ns, hn, rfl⟩ := ih
      walk_at "dw"
      refine ⟨cmul_l ⟨by decide, by decide⟩, by omega, small_nat (by omega), fun r r0 r1 => ⟨?_, hk _ ⟨ns ++ [r], by rw [List.length_append, hn]; rfl, by rw [List.map_append]; rfl⟩⟩⟩
      rw [List.length_map, hn, sizeLine_eq]
      omega
    · obtain ⟨ns, hn, rfl⟩ := ih
      rw [upto_len] at hn
      exact ⟨ns, .inl rfl, by omega, hw ns hn⟩
  · exact hw.elim

abbrev s__law_whole : Stmt := topS 26
theorem sc__law_whole : FnScope ["value", "low", "high"] ["value", "low", "high"] (defScope s__law_whole) := ⟨rfl, rfl, rfl, by decide +kernel, rfl, by decide +kernel, by decide +kernel⟩
def wholeB (v : PyData) (lo hi : Int) : Bool := match v with
  | .int i => decide (lo ≤ i) && decide (i ≤ hi)
  | _ => false
def w__law_whole : WFn := fun svs Φ => match svs with
  | [.d v, .d (.int lo), .d (.int hi)] => Φ (.bool (wholeB v lo hi))
  | _ => False
theorem ok__law_whole (B : Blt mg) (hs : ∃ o, base.get? sysModules = some o)   (F : HasDef K mg "_law_whole" s__law_whole ["value", "low", "high"]) : DefD P w K mg base 1 "_law_whole" 3 w__law_whole := by
  refine F.ok (k := 0) sc__law_whole fun f cdv A outer s H E hr gd => ⟨_, _, (dss_one (ds_ret (de_and (de_isi (T := "int") B.b_isinstance B.b_int (dv 0) (by decide +kernel)) (de_and (de_not (de_isi (T := "bool") B.b_isinstance B.b_bool (dv 0) (by decide +kernel))) (de_one (de_lele (dv 1) (dv 0) (dv 2))))))), ?_⟩
  intro svs Φ hl hw
  unfold w__law_whole at hw
  split at hw
  · walk_at "dw"
    rename_i v lo hi
    refine fIsi_int ?_
    cases v with
    | int i =>
      walk_at "dw"
      simp only [isIntB, if_true]
      refine fIsi_bool ?_
      simp only [isBoolB, asB, Bool.not_false, if_true]
      by_cases c : lo ≤ i
      · simpa [wholeB, c] using hw
      · simpa [wholeB, c] using hw
    | bool b =>
      walk_at "dw"
      simp only [isIntB, if_true]
      refine fIsi_bool ?_
      simp only [isBoolB, asB, Bool.not_true, Bool.false_eq_true, if_false]
      exact hw
    | none => exact hw
    | str x => exact hw
    | list xs => exact hw
    | tuple xs => exact hw
    | dict xs => exact hw
  · exact hw.elim

abbrev s__law_odd : Stmt := topS 28
theorem sc__law_odd : FnScope ["pen", "some"] ["pen"] (defScope s__law_odd) := ⟨rfl, rfl, rfl, by decide +kernel, rfl, by decide +kernel, by decide +kernel⟩
def oddList : List PyData := [.none, .bool true, .bool false, .int (-1), .int 0, .int 1, .int 2, .int 3, .int 7, .str "", .str "0", .str "old", .tuple [], .list [], dOf [], .tuple [.int 0], .tuple [.int 1, .int 2], .tuple [.int 0, .int 0], .tuple [.int 0, .int 1, .int 2],
  .int (10 ^ Int.toNat 41), .tuple [.tuple []], .list [.int 1], .tuple [.int 0, .int 0, .tuple [.int 0, .int 1]], .tuple [.int 1, .int 1, .tuple [.int 1, .int 0]]]
def w__law_odd : WFn := fun svs Φ => match svs with
  | [.pen] => ∀ d ∈ oddList, Φ d
  | _ => False
theorem ok__law_odd (B : Blt mg) (hs : ∃ o, base.get? sysModules = some o) (D__law_one_of : DefD P w K mg base 3 "_law_one_of" 2 w__law_one_of)  (F : HasDef K mg "_law_odd" s__law_odd ["pen"]) : DefD P w K mg base 4 "_law_odd" 1 w__law_odd := by
  refine F.ok (k := 3) sc__law_odd fun f cdv A outer s H E hr gd => ⟨_, _, (dss_cons (ds_set (i := 1) sc__law_odd.nd rfl (by first | exact Or.inl rfl | exact Or.inr rfl) (DF.to (df_lst (da_cons de_non (da_cons de_bl (da_cons de_bl (da_cons (de_neg de_int) (da_cons de_int (da_cons de_int (da_cons de_int (da_cons de_int (da_cons de_int (da_cons de_str (da_cons de_str (da_cons de_str (da_cons (de_tup da_nil) (da_cons (DF.to (df_lst da_nil)) (da_cons de_dnew (da_cons (de_tup (da_cons de_int da_nil)) (da_cons (de_tup (da_cons de_int (da_cons de_int da_nil))) (da_cons (de_tup (da_cons de_int (da_cons de_int da_nil))) (da_cons (de_tup (da_cons de_int (da_cons de_int (da_cons de_int da_nil)))) da_nil))))))))))))))))))))))
      (dss_one (ds_ret (D__law_one_of.call hr (by decide) gd (da_arg 0 (da_cons (de_add (dv 1) (DF.to (df_lst (da_cons (de_pow de_int de_int) (da_cons (de_tup (da_cons (de_tup da_nil) da_nil)) (da_cons (DF.to (df_lst (da_cons de_int da_nil))) (da_cons (de_tup (da_cons de_int (da_cons de_int (da_cons (de_tup (da_cons de_int (da_cons de_int da_nil))) da_nil)))) (da_cons (de_tup (da_cons de_int (da_cons de_int (da_cons (de_tup (da_cons de_int (da_cons de_int da_nil))) da_nil)))) da_nil)))))))) da_nil)))))), ?_⟩
  intro svs Φ hl hw
  unfold w__law_odd at hw
  split at hw
  · repeat (refine And.intro (show (_ : Nat) ≤ sizeLine from small_line (by decide)) ?_)
    refine And.intro (show CPow 10 41 from ⟨by decide, by decide, by decide⟩) ?_
    repeat (refine And.intro (show (_ : Nat) ≤ sizeLine from small_line (by decide)) ?_)
    refine And.intro (show (_ : Nat) = 2 from rfl) ?_
    exact ⟨by simp, by decide, hw⟩
  · exact hw.elim

abbrev s__law_bent : Stmt := topS 29
theorem sc__law_bent : FnScope ["pen", "value", "depth", "at", "option"] ["pen", "value", "depth"] (defScope s__law_bent) := ⟨rfl, rfl, rfl, by decide +kernel, rfl, by decide +kernel, by decide +kernel⟩
theorem odd_small : (oddList.all fun d => fine 140 d && decide (cost d ≤ 12000) && decide (d.depth ≤ 4) && decide (wid d ≤ 5)) = true := by decide +kernel
theorem odd_bent {b : Nat} (hb : 140 ≤ b) (v : PyData) {d : PyData} (h : d ∈ oddList) : Bent b v d := by
  have := List.all_eq_true.mp odd_small d h
  rw [Bool.and_eq_true, Bool.and_eq_true, Bool.and_eq_true, decide_eq_true_eq, decide_eq_true_eq] at this
  obtain ⟨⟨⟨h1, h2⟩, h3⟩, h4⟩ := this
  have h5 := of_decide_eq_true h4
  exact ⟨fine_mono (by omega) h1, by omega, by omega, by omega⟩
def wB__law_bent (n : Nat) : WFn := fun svs Φ => match svs with
  | [.pen, .d v, .d (.int m)] => (∃ j : Nat, m = (j : Nat) ∧ j ≤ n) ∧ ∃ b, 140 ≤ b ∧ fine b v = true ∧ cost v ≤ 1000000 ∧ ∀ d, Bent b v d → Φ d
  | _ => False
def wRec (n : Nat) : WFn := match n with
  | 0 => fun _ _ => False
  | n + 1 => wB__law_bent n
theorem mid_nat {i : Int} (h : i.natAbs < 2 ^ 24) : i.natAbs < 2 ^ 9000 := Nat.lt_of_lt_of_le h (Nat.pow_le_pow_right (by decide) (by decide))
theorem ok__law_bent (n : Nat) (k : Nat) (hk : 4 ≤ k) (B : Blt mg) (hs : ∃ o, base.get? sysModules = some o) (D__law_draw : DefD P w K mg base 2 "_law_draw" 2 w__law_draw) (D__law_odd : DefD P w K mg base 4 "_law_odd" 1 w__law_odd) (D__law_bent : DefD P w K mg base k "_law_bent" 3 (wRec n)) (F : HasDef K mg "_law_bent" s__law_bent ["pen", "value", "depth"]) : DefD P w K mg base (k + 1) "_law_bent" 3 (wB__law_bent n) := by
  refine F.ok (k := k) sc__law_bent fun f cdv A outer s H E hr gd => ⟨_, _, (dss_cons (ds_if (DW.dt' (dw_or (dt_not (dt_tru (de_isi (T := "tuple") B.b_isinstance B.b_tuple (dv 1) (by decide +kernel)))) (dw_or (dt_eq hr.units (dv 1) (de_tup da_nil)) (dw_or (dt_eq hr.units (dv 2) de_int) (dw_or1 (dt_eq hr.units (D__law_draw.call hr (by omega) gd (da_arg 0 (da_cons de_int da_nil))) de_int)))))) (dss_cons (ds_set (i := 4) sc__law_bent.nd rfl (by first | exact Or.inl rfl | exact Or.inr rfl) (D__law_draw.call hr (by omega) gd (da_arg 0 (da_cons de_int da_nil))))
      (dss_cons (ds_if (DW.dt' (dw_and (dt_tru (de_isi (T := "int") B.b_isinstance B.b_int (dv 1) (by decide +kernel))) (dw_and (dt_not (dt_tru (de_isi (T := "bool") B.b_isinstance B.b_bool (dv 1) (by decide +kernel)))) (dw_and1 (dt_lt (dv 4) de_int))))) (dss_one (ds_ret (de_ix (DF.to (df_lst (da_cons (de_add (dv 1) de_int) (da_cons (de_sub (dv 1) de_int) (da_cons (de_eq hr.units (dv 1) de_int) (da_cons de_int (da_cons (de_neg de_int) (da_cons (de_add (dv 1) de_int) da_nil)))))))) (dv 4)))) dss_nil)
      (dss_cons (ds_if (DW.dt' (dw_and (dt_tru (de_isi (T := "tuple") B.b_isinstance B.b_tuple (dv 1) (by decide +kernel))) (dw_and1 (dt_lt (dv 4) de_int)))) (dss_one (ds_ret (de_ix (DF.to (df_lst (da_cons (de_sl (dv 1) (do_some de_int) do_none) (da_cons (de_sl (dv 1) do_none (do_some (de_neg de_int))) (da_cons (de_add (dv 1) (de_sl (dv 1) do_none (do_some de_int))) (da_cons (de_revT (dv 1)) (da_cons (de_list B.b_list (da_cons (dv 1) da_nil)) (da_cons (de_add (dv 1) (de_tup (da_cons de_int da_nil))) da_nil)))))))) (dv 4)))) dss_nil)
      (dss_one (ds_ret (D__law_odd.call hr (by omega) gd (da_arg 0 da_nil))))))) dss_nil)
      (dss_cons (ds_set (i := 3) sc__law_bent.nd rfl (by first | exact Or.inl rfl | exact Or.inr rfl) (D__law_draw.call hr (by omega) gd (da_arg 0 (da_cons (de_len B.b_len (da_cons (dv 1) da_nil)) da_nil))))
      (dss_one (ds_ret (de_add (de_add (de_sl (dv 1) do_none (do_some (dv 3))) (de_tup (da_cons (D__law_bent.call hr (by omega) gd (da_arg 0 (da_cons (de_ix (dv 1) (dv 3)) (da_cons (de_sub (dv 2) de_int) da_nil)))) da_nil))) (de_sl (dv 1) (do_some (de_add (dv 3) de_int)) do_none)))))), ?_⟩
  intro svs Φ hl hw
  unfold wB__law_bent at hw
  split at hw
  · rename_i v m
    obtain ⟨⟨j0, rfl, hj0⟩, b, hb, hf, hc, hw⟩ := hw
    have oddGo : w__law_odd [SV.pen] Φ := fun d hd => hw d (odd_bent hb v hd)
    cases v with
    | int i =>
      walk_at "dx"
      refine ⟨by decide, small_nat (by decide), fun r r0 r1 => ?_⟩
      walk_at "dx"
      by_cases c : r < 6
      · simp only [c, decide_true, if_true]
        refine ⟨small_line (by decide), ?_⟩
        obtain ⟨y, hy, hm⟩ := atI_of (xs := [PyData.int (i + 1), PyData.int (i - 1), PyData.bool (i == 1), PyData.int 0, PyData.int (-1), PyData.int (i + 1)]) r0 c
        refine ⟨y, hy, hw y ?_⟩
        have bb : ∀ k : Bool, Bent b (.int i) (.bool k) := fun k => ⟨rfl, by unfold cost; omega, Nat.le_add_right _ _, Nat.le_add_right _ _⟩
        simp only [List.mem_cons, List.not_mem_nil, or_false] at hm
        rcases hm with rfl | rfl | rfl | rfl | rfl | rfl
        · exact Bent.int hf (by omega)
        · exact Bent.int hf (by omega)
        · exact bb _
        · exact Bent.int hf (by omega)
        · exact Bent.int hf (by omega)
        · exact Bent.int hf (by omega)
      · simp only [c, decide_false, Bool.false_eq_true, if_false]
        exact oddGo
    | tuple vs =>
      have hfe : ∀ x ∈ vs, fine b x = true := fineAll_iff.mp (by unfold fine at hf; exact hf)
      have hfe' : ∀ x ∈ vs, fine (b + 1) x = true := fun x hx => fine_mono (Nat.le_succ b) (hfe x hx)
      have hde : ∀ x ∈ vs, x.depth ≤ PyData.depthAll vs := depthAll_le.mp (Nat.le_refl _)
      have hwe : ∀ x ∈ vs, wid x ≤ widAll vs := widAll_le.mp (Nat.le_refl _)
      have hlen : vs.length ≤ 1000000 := by have := costAll_len vs; unfold cost at hc; omega
      walk_at "dx"
      refine ⟨Nat.zero_le _, ?_⟩
      by_cases c1 : vs.isEmpty = true
      rw [if_pos c1]
      rotate_left
      rw [if_neg c1]
      by_cases c2 : ((j0 : Int) == 0) = true
      rw [if_pos c2]
      rotate_left
      rw [if_neg c2]
      refine ⟨by decide, small_nat (by decide), fun r r0 r1 => ?_⟩
      walk_at "dx"
      by_cases c3 : (r == 0) = true
      rw [if_pos c3]
      rotate_left
      rw [if_neg c3]
      · have pos : 0 < vs.length := List.length_pos_iff.mpr fun e => c1 (by rw [e]; rfl)
        refine ⟨by omega, mid_nat (by omega), fun r r0 r1 => ?_⟩
        obtain ⟨j, rfl⟩ := Int.eq_ofNat_of_zero_le r0
        have hj : j < vs.length := by omega
        walk_at "dx"
        refine ⟨vs[j], atI_nat (List.getElem?_eq_getElem hj), ?_⟩
        have hm := List.getElem_mem hj
        have hcm := costAll_mem hm
        cases j0 with
        | zero => exact absurd rfl c2
        | succ j0 =>
          obtain ⟨n, rfl⟩ : ∃ n', n = n' + 1 := ⟨n - 1, by omega⟩
          have e4 : costAll vs = costAll (vs.take j) + (cost vs[j] + 2) + costAll (vs.drop (j + 1)) := by
            have := congrArg costAll (List.take_append_drop j vs)
            rw [costAll_app, List.drop_eq_getElem_cons hj, costAll] at this
            omega
          refine ⟨⟨j0, by omega, by omega⟩, b, hb, hfe _ hm, by unfold cost at hc; omega, fun d2 hd2 => ?_⟩
          have e : ((j : Nat) : Int) + 1 = ((j + 1 : Nat) : Int) := by omega
          rw [e, cut_from _ _ (by omega), cut_to _ _ (by omega)]
          refine ⟨small_line (by decide), small_line (by rw [List.length_take]; omega), small_line (by rw [List.length_append, List.length_take, List.length_drop, List.length_singleton]; omega), hw _ (Bent.tuple (fun x hx => ?_) ?_ (fun x hx => ?_) ?_ (fun x hx => ?_))⟩
          · rw [List.mem_append, List.mem_append, List.mem_singleton] at hx
            rcases hx with (hx | rfl) | hx
            · exact hfe' x (List.mem_of_mem_take hx)
            · exact hd2.1
            · exact hfe' x (List.mem_of_mem_drop hx)
          · have := hd2.2.1
            rw [costAll_app, costAll_app, costAll, costAll]
            omega
          · rw [List.mem_append, List.mem_append, List.mem_singleton] at hx
            rcases hx with (hx | rfl) | hx
            · exact Nat.le_trans (hde x (List.mem_of_mem_take hx)) (Nat.le_add_right _ _)
            · have := hd2.2.2.1
              have := hde _ hm
              omega
            · exact Nat.le_trans (hde x (List.mem_of_mem_drop hx)) (Nat.le_add_right _ _)
          · rw [List.length_append, List.length_append, List.length_take, List.length_drop, List.length_singleton]
            omega
          · rw [List.mem_append, List.mem_append, List.mem_singleton] at hx
            rcases hx with (hx | rfl) | hx
            · exact Nat.le_trans (hwe x (List.mem_of_mem_take hx)) (Nat.le_add_right _ _)
            · have := hd2.2.2.2
              have := hwe _ hm
              omega
            · exact Nat.le_trans (hwe x (List.mem_of_mem_drop hx)) (Nat.le_add_right _ _)
      iterate 3
        · refine ⟨by decide, small_nat (by decide), fun r r0 r1 => ?_⟩
          walk_at "dx"
          by_cases c : r < 6
          · simp only [c, decide_true, if_true]
            have s1 := cutD_sub vs none (some 1)
            have s2 := cutD_sub vs (some 1) none
            have s3 := cutD_sub vs none (some (-1))
            have l1 := s1.length_le
            have t1 : (cutD vs none (some 1)).length ≤ 1 := by
              rw [show (1 : Int) = ((1 : Nat) : Int) from rfl]
              unfold cutD
              rw [HT.sIx_nat, HT.sIx_none, List.drop_zero, List.length_take]
              omega
            have sub : ∀ {l : List PyData}, l.Sublist vs → Bent b (.tuple vs) (.tuple l) := fun {l} h => Bent.tuple (fun x hx => hfe' x (h.subset hx)) (by have := costAll_sub h; omega) (fun x hx => Nat.le_trans (hde x (h.subset hx)) (Nat.le_add_right _ _)) (by have := h.length_le; omega) (fun x hx => Nat.le_trans (hwe x (h.subset hx)) (Nat.le_add_right _ _))
            refine ⟨small_line (by omega), small_line (by decide), small_line (by omega), small_line (by decide), ?_⟩
            obtain ⟨y, hy, hm⟩ := atI_of (xs := [PyData.tuple (cutD vs (some 1) none), PyData.tuple (cutD vs none (some (-1))), PyData.tuple (vs ++ cutD vs none (some 1)), PyData.tuple vs.reverse, PyData.list vs, PyData.tuple (vs ++ [PyData.int 0])]) r0 c
            refine ⟨y, hy, hw y ?_⟩
            simp only [List.mem_cons, List.not_mem_nil, or_false] at hm
            rcases hm with rfl | rfl | rfl | rfl | rfl | rfl
            · exact sub s2
            · exact sub s3
            · refine Bent.tuple (fun x hx => ?_) (by have := costAll_sub s1; rw [costAll_app]; omega) (fun x hx => ?_) (by rw [List.length_append]; omega) (fun x hx => ?_)
              · rcases List.mem_append.mp hx with hx | hx
                · exact hfe' x hx
                · exact hfe' x (s1.subset hx)
              · rcases List.mem_append.mp hx with hx | hx
                · exact Nat.le_trans (hde x hx) (Nat.le_add_right _ _)
                · exact Nat.le_trans (hde x (s1.subset hx)) (Nat.le_add_right _ _)
              · rcases List.mem_append.mp hx with hx | hx
                · exact Nat.le_trans (hwe x hx) (Nat.le_add_right _ _)
                · exact Nat.le_trans (hwe x (s1.subset hx)) (Nat.le_add_right _ _)
            · exact Bent.tuple (fun x hx => hfe' x (List.mem_reverse.mp hx)) (by rw [costAll_rev]; omega) (fun x hx => Nat.le_trans (hde x (List.mem_reverse.mp hx)) (Nat.le_add_right _ _)) (by rw [List.length_reverse]; omega) (fun x hx => Nat.le_trans (hwe x (List.mem_reverse.mp hx)) (Nat.le_add_right _ _))
            · exact Bent.list hfe
            · refine Bent.tuple (fun x hx => ?_) (by rw [costAll_app, costAll, costAll]; unfold cost; omega) (fun x hx => ?_) (by rw [List.length_append, List.length_singleton]; omega) (fun x hx => ?_)
              · rcases List.mem_append.mp hx with hx | hx
                · exact hfe' x hx
                · rw [List.mem_singleton] at hx
                  subst hx
                  unfold fine
                  exact decide_eq_true (Nat.pow_pos (by decide))
              · rcases List.mem_append.mp hx with hx | hx
                · exact Nat.le_trans (hde x hx) (Nat.le_add_right _ _)
                · rw [List.mem_singleton] at hx
                  subst hx
                  exact Nat.zero_le _
              · rcases List.mem_append.mp hx with hx | hx
                · exact Nat.le_trans (hwe x hx) (Nat.le_add_right _ _)
                · rw [List.mem_singleton] at hx
                  subst hx
                  exact Nat.zero_le _
          · simp only [c, decide_false, Bool.false_eq_true, if_false]
            exact oddGo
    | none =>
      walk_at "dx"
      exact ⟨by decide, small_nat (by decide), fun r r0 r1 => oddGo⟩
    | bool k =>
      walk_at "dx"
      exact ⟨by decide, small_nat (by decide), fun r r0 r1 => oddGo⟩
    | str k =>
      walk_at "dx"
      exact ⟨by decide, small_nat (by decide), fun r r0 r1 => oddGo⟩
    | list k =>
      walk_at "dx"
      exact ⟨by decide, small_nat (by decide), fun r r0 r1 => oddGo⟩
    | dict k =>
      walk_at "dx"
      exact ⟨by decide, small_nat (by decide), fun r r0 r1 => oddGo⟩
  · exact hw.elim

def w__law_bent : WFn := wB__law_bent 2

theorem asBs_bools : ∀ bs : List Bool, asBs (bs.map .bool) = some bs
  | [] => rfl
  | b :: r => by simp [asBs, asBs_bools r]

abbrev s_is_standing : Stmt := topS 4
theorem sc_is_standing : FnScope ["value"] ["value"] (defScope s_is_standing) := ⟨rfl, rfl, rfl, by decide +kernel, rfl, by decide +kernel, by decide +kernel⟩
def standB : PyData → Bool
  | .int i => decide (i = 0) || decide (i = 1)
  | _ => false
theorem cut_tail {α : Type} (x : α) (xs : List α) : cutD (x :: xs) (some 1) none = xs := by
  rw [show (1 : Int) = ((1 : Nat) : Int) from rfl, cut_from _ _ (by rw [List.length_cons]; omega)]
  rfl
theorem num_run {d : PyData} {Φ : PyData → Prop} (h : Φ (.bool (numB d))) : w_is_number [.d d] Φ := h
theorem at0 {α : Type} {x : α} {xs : List α} : L2.atI (x :: xs) 0 = some x := atI_nat (j := 0) rfl
theorem at1 {α : Type} {x y : α} {xs : List α} : L2.atI (x :: y :: xs) 1 = some y := atI_nat (j := 1) rfl
theorem at2 {α : Type} {x y z : α} {xs : List α} : L2.atI (x :: y :: z :: xs) 2 = some z := atI_nat (j := 2) rfl
def w_is_standing : WFn := f1 fun d Φ => Φ (.bool (standB d))
theorem stand_run {d : PyData} {Φ : PyData → Prop} (h : Φ (.bool (standB d))) : w_is_standing [.d d] Φ := h
theorem ok_is_standing (B : Blt mg) (hs : ∃ o, base.get? sysModules = some o) (D_is_number : DefD P w K mg base 1 "is_number" 1 w_is_number)  (F : HasDef K mg "is_standing" s_is_standing ["value"]) : DefD P w K mg base 2 "is_standing" 1 w_is_standing := by
  refine F.ok (k := 1) sc_is_standing fun f cdv A outer s H E hr gd => ⟨_, _, (dss_one (ds_ret (de_and (D_is_number.call hr (by decide) gd (da_cons (dv 0) da_nil)) (de_one (de_in hr.units (dv 0) (de_tup (da_cons de_int (da_cons de_int da_nil)))))))), ?_⟩
  intro svs Φ hl hw
  replace hw := f1_out hw
  obtain ⟨d, rfl, hw⟩ := hw
  walk_at "dw"
  cases d with
  | int i =>
    refine num_run ?_
    simp only [numB, asB_bool, if_true]
    refine ⟨small_line (by decide), [.int 0, .int 1], .inr rfl, rfl, rfl, Nat.zero_le _, ?_⟩
    have e : ([PyData.int 0, .int 1].any fun z => PyData.eqv z (.int i)) = standB (.int i) := by
      simp only [List.any_cons, List.any_nil, Bool.or_false, PyData.eqv, standB]
      by_cases h0 : i = 0
      · subst h0; rfl
      · by_cases h1 : i = 1
        · subst h1; rfl
        · have a0 : ((0 : Int) == i) = false := by simpa using fun h => h0 h.symm
          have a1 : ((1 : Int) == i) = false := by simpa using fun h => h1 h.symm
          simp [h0, h1, a0, a1]
    rw [e]
    exact hw
  | _ => exact hw

abbrev s_is_node : Stmt := topS 5
theorem sc_is_node : FnScope ["many", "value", "part"] ["many", "value"] (defScope s_is_node) := ⟨rfl, rfl, rfl, by decide +kernel, rfl, by decide +kernel, by decide +kernel⟩
def posB : PyData → Bool
  | .int i => decide (1 ≤ i)
  | _ => false
def nodeB (m : Int) (v : PyData) : Bool := match v with
  | .tuple (d :: ds) => decide ((ds.length : Int) = m) && standB d && ds.all posB
  | _ => false
def w_is_node : WFn := f2 fun e v Φ => ∃ m : Int, e = .int m ∧ 0 < m ∧ wid v ≤ 1000 ∧ Φ (.bool (nodeB m v))
theorem ok_is_node (B : Blt mg) (hs : ∃ o, base.get? sysModules = some o) (D_is_number : DefD P w K mg base 1 "is_number" 1 w_is_number) (D_is_standing : DefD P w K mg base 2 "is_standing" 1 w_is_standing)  (F : HasDef K mg "is_node" s_is_node ["many", "value"]) : DefD P w K mg base 3 "is_node" 2 w_is_node := by
  refine F.ok (k := 2) sc_is_node fun f cdv A outer s H E hr gd => ⟨_, _, (dss_cons (ds_if (DW.dt' (dw_or (dt_not (dt_tru (de_isi (T := "tuple") B.b_isinstance B.b_tuple (dv 1) (by decide +kernel)))) (dw_or1 (dt_ne hr.units (de_len B.b_len (da_cons (dv 1) da_nil)) (de_add de_int (dv 0)))))) (dss_one (ds_ret de_bl)) dss_nil)
      (dss_one (ds_ret (de_and (D_is_standing.call hr (by decide) gd (da_cons (de_ix (dv 1) de_int) da_nil)) (de_one (de_all rfl B.b_all (da_cons (DF.to (df_lc (own := [("part", 2)]) rfl sc_is_node.nd (di_seq (de_sl (dv 1) (do_some de_int) do_none)) (blkOk_by (N := ["many", "value", "part"]) (sc := (defScope s_is_node)) (own := [("part", 2)]) (by decide +kernel)) (by decide) (fun _ _ _ _ _ => (dg_name (i := 2) sc_is_node.nd rfl (by first | exact Or.inl rfl | exact Or.inr rfl))) (fun _ _ _ _ _ => dts_nil) (fun _ _ _ _ _ => (de_and (D_is_number.call hr (by decide) gd (da_cons (dv 2) da_nil)) (de_one (de_ge (dv 2) de_int)))))) da_nil))))))), ?_⟩
  intro svs Φ hl hw
  replace hw := f2_out hw
  obtain ⟨e, v, rfl, m, rfl, hm, hv, hw⟩ := hw
  cases v with
  | tuple ds =>
    have hn := wid_len hv
    walk_at "dx"
    cases ds with
    | nil =>
      rw [if_pos (by simp; omega)]
      exact hw
    | cons d ds =>
      rw [List.length_cons] at hn ⊢
      by_cases c : ((ds.length : Nat) : Int) = m
      · rw [if_neg (by simp; omega), cut_tail]
        have e1 : nodeB m (.tuple (d :: ds)) = (standB d && ds.all posB) := by
          unfold nodeB
          simp only [c, decide_true, Bool.true_and]
        rw [e1] at hw
        refine ⟨d, at0, stand_run ?_⟩
        rw [asB_bool]
        split
        · rename_i k
          rw [k, Bool.true_and] at hw
          refine lcW_map (fun x => .bool (posB x)) (fun x hx yes hy => ?_) (small_line (by omega)) ?_
          · walk_at "dw"
            cases x with
            | int i =>
              refine num_run ?_
              simp only [numB, asB_bool, if_true]
              exact ⟨trivial, hy⟩
            | _ => exact hy
          · have em : ds.map (fun x => PyData.bool (posB x)) = (ds.map posB).map .bool := by rw [List.map_map]; rfl
            rw [em]
            unfold fAll
            simp only [asBs_bools, List.all_map, Function.comp_def, id]
            exact hw
        · rename_i k
          rw [Bool.eq_false_iff.mpr k, Bool.false_and] at hw
          exact hw
      · rw [if_pos (by simp; omega)]
        have e1 : nodeB m (.tuple (d :: ds)) = false := by
          unfold nodeB
          simp only [c, decide_false, Bool.false_and]
        rw [e1] at hw
        exact hw
  | _ =>
    walk_at "dx"
    exact hw

abbrev s_look_between : Stmt := topS 6
theorem sc_look_between : FnScope ["u", "v"] ["u", "v"] (defScope s_look_between) := ⟨rfl, rfl, rfl, by decide +kernel, rfl, by decide +kernel, by decide +kernel⟩
def lookD (s t : PyData) (ns : List Int) : PyData := .tuple [s, t, tupI (ranks ns)]
def w_look_between : WFn := f2 fun u v Φ => ∃ s t ns ms, u = .tuple (s :: ns.map .int) ∧ v = .tuple (t :: ms.map .int) ∧ ns.length + ms.length < 64 ∧ Φ (lookD s t (ns ++ ms))
theorem ok_look_between (B : Blt mg) (hs : ∃ o, base.get? sysModules = some o) (D_order_of : DefD P w K mg base 1 "order_of" 1 w_order_of)  (F : HasDef K mg "look_between" s_look_between ["u", "v"]) : DefD P w K mg base 2 "look_between" 2 w_look_between := by
  refine F.ok (k := 1) sc_look_between fun f cdv A outer s H E hr gd => ⟨_, _, (dss_one (ds_ret (de_tup (da_cons (de_ix (dv 0) de_int) (da_cons (de_ix (dv 1) de_int) (da_cons (D_order_of.call hr (by decide) gd (da_cons (de_add (de_sl (dv 0) (do_some de_int) do_none) (de_sl (dv 1) (do_some de_int) do_none)) da_nil)) da_nil)))))), ?_⟩
  intro svs Φ hl hw
  replace hw := f2_out hw
  obtain ⟨u, v, rfl, s, t, ns, ms, rfl, rfl, hn, hw⟩ := hw
  walk_at "dx"
  rw [cut_tail, cut_tail, ← List.map_append]
  refine ⟨s, at0, t, at0, small_line (by rw [List.length_map, List.length_map]; omega), ?_⟩
  exact ⟨ns ++ ms, rfl, by rw [List.length_append]; exact hn, small_line (by decide), hw⟩

abbrev s__law_is_node : Stmt := topS 27
theorem sc__law_is_node : FnScope ["many", "value", "part"] ["many", "value"] (defScope s__law_is_node) := ⟨rfl, rfl, rfl, by decide +kernel, rfl, by decide +kernel, by decide +kernel⟩
def w__law_is_node : WFn := f2 fun e v Φ => ∃ m : Int, e = .int m ∧ 0 < m ∧ wid v ≤ 1000 ∧ Φ (.bool (match v with
  | .tuple (d :: ds) => decide ((ds.length : Int) = m) && wholeB d 0 1 && ds.all fun x => wholeB x 1 (10 ^ Int.toNat 60)
  | _ => false))
theorem ok__law_is_node (B : Blt mg) (hs : ∃ o, base.get? sysModules = some o) (D__law_whole : DefD P w K mg base 1 "_law_whole" 3 w__law_whole)  (F : HasDef K mg "_law_is_node" s__law_is_node ["many", "value"]) : DefD P w K mg base 2 "_law_is_node" 2 w__law_is_node := by
  refine F.ok (k := 1) sc__law_is_node fun f cdv A outer s H E hr gd => ⟨_, _, (dss_cons (ds_if (DW.dt' (dw_or (dt_not (dt_tru (de_isi (T := "tuple") B.b_isinstance B.b_tuple (dv 1) (by decide +kernel)))) (dw_or (dt_ne hr.units (de_len B.b_len (da_cons (dv 1) da_nil)) (de_add (dv 0) de_int)) (dw_or1 (dt_not (dt_tru (D__law_whole.call hr (by decide) gd (da_cons (de_ix (dv 1) de_int) (da_cons de_int (da_cons de_int da_nil)))))))))) (dss_one (ds_ret de_bl)) dss_nil)
      (dss_one (ds_ret (de_eq hr.units (DF.to (df_lc (own := [("part", 2)]) rfl sc__law_is_node.nd (di_seq (de_sl (dv 1) (do_some de_int) do_none)) (blkOk_by (N := ["many", "value", "part"]) (sc := (defScope s__law_is_node)) (own := [("part", 2)]) (by decide +kernel)) (by decide) (fun _ _ _ _ _ => (dg_name (i := 2) sc__law_is_node.nd rfl (by first | exact Or.inl rfl | exact Or.inr rfl))) (fun _ _ _ _ _ => (dts_one (dt_not (dt_tru (D__law_whole.call hr (by decide) gd (da_cons (dv 2) (da_cons de_int (da_cons (de_pow de_int de_int) da_nil)))))))) (fun _ _ _ _ _ => de_int))) (DF.to (df_lst da_nil)))))), ?_⟩
  intro svs Φ hl hw
  replace hw := f2_out hw
  obtain ⟨e, v, rfl, m, rfl, hm, hv, hw⟩ := hw
  cases v with
  | tuple ds =>
    have hn := wid_len hv
    walk_at "dx"
    cases ds with
    | nil =>
      rw [if_pos (by simp; omega)]
      exact hw
    | cons d ds =>
      rw [List.length_cons] at hn ⊢
      by_cases c : ((ds.length : Nat) : Int) = m
      · rw [if_neg (by simp; omega), cut_tail]
        simp only [c, decide_true, Bool.true_and] at hw
        refine ⟨d, at0, ?_⟩
        show (if (!wholeB d 0 1) = true then Φ (.bool false) else _)
        by_cases k : wholeB d 0 1 = true
        · rw [k, Bool.true_and] at hw
          rw [if_neg (by rw [k]; decide)]
          refine lcW_filterMap (fun x => !wholeB x 1 (10 ^ Int.toNat 60)) (fun _ => .int 1) ds [] (fun x hx yes no hy hn => ?_) (small_line (by rw [List.length_nil]; omega)) ?_
          · walk_at "dw"
            refine ⟨⟨by decide, by decide, by decide⟩, ?_⟩
            show (if (!wholeB x 1 (10 ^ Int.toNat 60)) = true then yes (.int 1) else no)
            split
            · rename_i z; exact hy z
            · rename_i z; exact hn (Bool.eq_false_iff.mpr z)
          · rw [List.nil_append]
            have e1 : (ds.filter fun x => !wholeB x 1 (10 ^ Int.toNat 60)).map (fun _ => PyData.int 1) = ((ds.filter fun x => !wholeB x 1 (10 ^ Int.toNat 60)).map fun _ => (1 : Int)).map PyData.int := by rw [List.map_map]; rfl
            rw [e1]
            refine ⟨Nat.zero_le _, shaped_ints_l _, shaped_nil_l, ?_⟩
            rw [show PyData.eqv (.list _) (.list []) = _ from eqv_ints_l _ []]
            have e2 : decide ((ds.filter fun x => !wholeB x 1 (10 ^ Int.toNat 60)).map (fun _ => (1 : Int)) = []) = ds.all fun x => wholeB x 1 (10 ^ Int.toNat 60) := by
              rw [Bool.eq_iff_iff, decide_eq_true_eq, List.map_eq_nil_iff, List.filter_eq_nil_iff, List.all_eq_true]
              exact ⟨fun h a ha => by simpa using h a ha, fun h a ha => by simpa using h a ha⟩
            rw [e2]
            exact hw
        · rw [Bool.eq_false_iff.mpr k, Bool.false_and] at hw
          rw [if_pos (by rw [Bool.eq_false_iff.mpr k]; rfl)]
          exact hw
      · rw [if_pos (by simp; omega)]
        simp only [c, decide_false, Bool.false_and] at hw
        exact hw
  | _ =>
    walk_at "dx"
    exact hw

end
end DL
namespace DL
open PySem PySem.Spec PyProof.Rows L2
local macro_rules | `(tactic| walk_at "dw") => `(tactic| simp only [wSeq, wIfS, wB, wOp, fCmp, wPen, wVar, wPenSet, wArg, wNil, wCons, wCall, f1, f2, wSet, wRet, wRetN, wNx, wAnd, wOr, wUn, wIf, wTru, wNotT, wAndT, wOrT, wC, wData, wTup, wLst, wLc, wIS, wIL, wIT, wFor, wSl, wPar, wAsg, wgName, wgTup, wgNil, wgCons, wOwn, wApp, wExt, wFrz, frz, wDrop, wYes, wLc2, wDc, wSortSet, wLenSet, wLenSetT, wSortSetN, wParO, wLenL, wDget, wZip, wZip3, wParF, wTriD, wOwnD, wFrzD, DL.frzD, wLenO, wIxO, wChain, wDef, wNever, fLen, allD, Option.map_some, wipeD,
    List.map_cons, List.map_nil, List.cons_append, List.nil_append, List.append_nil, List.replicate_succ, List.replicate_zero, List.getElem?_cons_zero, List.getElem?_cons_succ, List.set_cons_zero, List.set_cons_succ, List.length_cons, List.length_nil, Nat.reduceAdd, Nat.reduceSub, List.getElem?_nil, Int.reduceEq, if_true, if_false, reduceIte, fI_int, fAdd_int, fAdd_str, fAdd_list, fAdd_tuple, asI_int, asB_bool, fSl_list, fSl_tuple, fEq_str, fNe_str, fNe_list, fEq_list, fEq_int, fEq_unit, fNe_int, shaped_int, Bool.false_eq_true, true_or, or_true, true_and, and_true, false_or, or_false])
local macro_rules | `(tactic| walk_at "dx") => `(tactic| simp only [wSeq, wIfS, wB, wOp, fCmp, wPen, wVar, wPenSet, wArg, wNil, wCons, wCall, f1, f2, wSet, wRet, wRetN, wNx, wAnd, wOr, wUn, wIf, wTru, wNotT, wAndT, wOrT, wC, wData, wTup, wLst, wLc, wIS, wIL, wIT, wFor, wSl, wPar, wAsg, wgName, wgTup, wgNil, wgCons, wOwn, wApp, wExt, wFrz, frz, wDrop, wYes, wLc2, wDc, wSortSet, wLenSet, wLenSetT, wSortSetN, wParO, wLenL, wDget, wZip, wZip3, wParF, wTriD, wOwnD, wFrzD, DL.frzD, wLenO, wIxO, wChain, wDef, wNever, fLen, allD, Option.map_some, wipeD,
    List.map_cons, List.map_nil, List.cons_append, List.nil_append, List.append_nil, List.replicate_succ, List.replicate_zero, List.getElem?_cons_zero, List.getElem?_cons_succ, List.set_cons_zero, List.set_cons_succ, List.length_cons, List.length_nil, Nat.reduceAdd, Nat.reduceSub, List.getElem?_nil, Int.reduceEq, if_true, if_false, reduceIte, fI_int, fAdd_int, fAdd_str, fAdd_list, fAdd_tuple, asI_int, asB_bool, fSl_list, fSl_tuple, fEq_str, fNe_str, fNe_list, fEq_list, fEq_int, fEq_unit, fNe_int, shaped_int, Bool.false_eq_true, true_or, or_true, true_and, and_true, false_or, or_false, fIsi_intE, fIsi_boolE, fIsi_tupleE, isIntB, isBoolB, isTupB, truD, Bool.not_false, Bool.not_true])
section
variable {P : Program} {w : World} {K : PySem.W.Frag} {mg : Str → Option Value} {base : Heap}
abbrev s__law_some_look : Stmt := topS 22
theorem sc__law_some_look : FnScope ["pen", "many"] ["pen", "many"] (defScope s__law_some_look) := ⟨rfl, rfl, rfl, by decide +kernel, rfl, by decide +kernel, by decide +kernel⟩
def w__law_some_look : WFn := fun svs Φ => match svs with
  | [.pen, .d (.int m)] => ∃ n : Nat, m = (n : Nat) ∧ (n = 1 ∨ n = 2) ∧ ∀ l ∈ everyL n, Φ l
  | _ => False
theorem ok__law_some_look (B : Blt mg) (hs : ∃ o, base.get? sysModules = some o) (D__law_some_order : DefD P w K mg base 3 "_law_some_order" 2 w__law_some_order) (D__law_draw : DefD P w K mg base 2 "_law_draw" 2 w__law_draw)  (F : HasDef K mg "_law_some_look" s__law_some_look ["pen", "many"]) : DefD P w K mg base 4 "_law_some_look" 2 w__law_some_look := by
  refine F.ok (k := 3) sc__law_some_look fun f cdv A outer s H E hr gd => ⟨_, _, (dss_one (ds_ret (de_tup (da_cons (D__law_draw.call hr (by decide) gd (da_arg 0 (da_cons de_int da_nil))) (da_cons (D__law_draw.call hr (by decide) gd (da_arg 0 (da_cons de_int da_nil))) (da_cons (D__law_some_order.call hr (by decide) gd (da_arg 0 (da_cons (dv 1) da_nil))) da_nil)))))), ?_⟩
  intro svs Φ hl hw
  unfold w__law_some_look at hw
  split at hw
  · obtain ⟨n, rfl, hn, hw⟩ := hw
    walk_at "dw"
    refine ⟨by decide, small_nat (by decide), fun s s0 s1 => ?_⟩
    refine ⟨by decide, small_nat (by decide), fun t t0 t1 => ?_⟩
    exact ⟨by omega, by omega, fun ns hns => ⟨small_line (by decide), hw _ (every_iff.mpr ⟨s, t, ranks ns, rfl, by omega, by omega, ranks_order (by omega)⟩)⟩⟩
  · exact hw.elim

theorem row_at {m : Nat} {row : List Int} (h : Row m row) {i : Int} (i0 : 0 ≤ i) (i1 : i < 2 * (m : Nat)) : ∃ v : Int, ∀ Φ : PyData → Prop, fIx (tupI row) (.int i) Φ = Φ (.int v) := by
  obtain ⟨j, rfl⟩ := Int.eq_ofNat_of_zero_le i0
  have hj : j < row.length := by rw [h.1]; omega
  exact ⟨row[j], fun Φ => ix_at (by rw [List.getElem?_map, List.getElem?_eq_getElem hj]; rfl)⟩
theorem every_set {n : Nat} (hn : n = 1 ∨ n = 2) {ds : List PyData} (h : ∀ d ∈ ds, d ∈ everyL n) (hl : ds.length ≤ 299) : SetOk ds := lk_set (fun d hd => every_is hn (h d hd)) hl

abbrev s__law_some_table : Stmt := topS 23
theorem sc__law_some_table : FnScope ["pen", "many", "most", "lap"] ["pen", "many", "most"] (defScope s__law_some_table) := ⟨rfl, rfl, rfl, by decide +kernel, rfl, by decide +kernel, by decide +kernel⟩
/-- some table of m numbers -/
def w__law_some_table : WFn := fun svs Φ => match svs with
  | [.pen, .d (.int m), .d (.int k)] => ∃ n : Nat, m = (n : Nat) ∧ (n = 1 ∨ n = 2) ∧ 0 ≤ k ∧ k ≤ 100 ∧ ∀ zs, (∀ z ∈ zs, z ∈ everyL n) → zs.length ≤ 150 → Φ (.tuple zs)
  | _ => False
theorem ok__law_some_table (B : Blt mg) (hs : ∃ o, base.get? sysModules = some o) (D__law_draw : DefD P w K mg base 2 "_law_draw" 2 w__law_draw) (D__law_some_look : DefD P w K mg base 4 "_law_some_look" 2 w__law_some_look)  (F : HasDef K mg "_law_some_table" s__law_some_table ["pen", "many", "most"]) : DefD P w K mg base 5 "_law_some_table" 3 w__law_some_table := by
  refine F.ok (k := 4) sc__law_some_table fun f cdv A outer s H E hr gd => ⟨_, _, (dss_one (ds_ret (de_tuple B.b_tuple (da_cons (de_sortSetN rfl hr.units B.b_sorted B.b_set (DF.to (df_lc (own := [("lap", 3)]) rfl sc__law_some_table.nd (di_range1 rfl B.b_range (da_cons (D__law_draw.call hr (by decide) gd (da_arg 0 (da_cons (de_add (dv 2) de_int) da_nil))) da_nil)) (blkOk_by (N := ["pen", "many", "most", "lap"]) (sc := (defScope s__law_some_table)) (own := [("lap", 3)]) (by decide +kernel)) (by decide) (fun _ _ _ _ _ => (dg_name (i := 3) sc__law_some_table.nd rfl (by first | exact Or.inl rfl | exact Or.inr rfl))) (fun _ _ _ _ _ => dts_nil) (fun _ _ _ _ _ => (D__law_some_look.call hr (by decide) gd (da_arg 0 (da_cons (dv 1) da_nil))))))) da_nil)))), ?_⟩
  intro svs Φ hl hw
  unfold w__law_some_table at hw
  split at hw
  · obtain ⟨n, rfl, hn, k0, k1, hw⟩ := hw
    walk_at "dw"
    refine ⟨by omega, small_nat (by omega), fun r r0 r1 => ?_⟩
    refine ⟨by omega, by omega, ?_⟩
    refine lcW_ind (fun i acc => (∀ z ∈ acc, z ∈ everyL n) ∧ acc.length = i) ⟨fun _ z => (nomatch z), rfl⟩ (fun i x acc k hx ih hk => ?_) (fun acc ih => ?_)
    · obtain ⟨rfl, hi⟩ := upto_get hx
      walk_at "dw"
      refine ⟨n, rfl, hn, fun l hl2 => ⟨by rw [ih.2]; exact Nat.lt_of_lt_of_le (show i < 200 by omega) (small_line (by decide)), hk _ ⟨fun z hz => ?_, by rw [List.length_append, ih.2]; rfl⟩⟩⟩
      rcases List.mem_append.mp hz with hz | hz
      · exact ih.1 z hz
      · rw [List.mem_singleton.mp hz]; exact hl2
    · have hlen := ih.2
      rw [upto_len] at hlen
      refine ⟨acc, rfl, every_set hn ih.1 (by omega), fun es up => ?_⟩
      exact hw es (fun z hm => ih.1 z ((up.mem z).mp hm)) (by have := up.len; omega)
  · exact hw.elim

abbrev s__law_falling : Stmt := topS 24
theorem sc__law_falling : FnScope ["pen", "many", "most", "at", "found", "lap", "s", "t", "row"] ["pen", "many", "most"] (defScope s__law_falling) := ⟨rfl, rfl, rfl, by decide +kernel, rfl, by decide +kernel, by decide +kernel⟩
/-- some table of m numbers -/
def w__law_falling : WFn := fun svs Φ => match svs with
  | [.pen, .d (.int m), .d (.int k)] => ∃ n : Nat, m = (n : Nat) ∧ (n = 1 ∨ n = 2) ∧ 0 ≤ k ∧ k ≤ 100 ∧ ∀ zs, (∀ z ∈ zs, z ∈ everyL n) → zs.length ≤ 150 → Φ (.tuple zs)
  | _ => False
theorem ok__law_falling (B : Blt mg) (hs : ∃ o, base.get? sysModules = some o) (D__law_draw : DefD P w K mg base 2 "_law_draw" 2 w__law_draw) (D__law_some_look : DefD P w K mg base 4 "_law_some_look" 2 w__law_some_look)  (F : HasDef K mg "_law_falling" s__law_falling ["pen", "many", "most"]) : DefD P w K mg base 5 "_law_falling" 3 w__law_falling := by
  refine F.ok (k := 4) sc__law_falling fun f cdv A outer s H E hr gd => ⟨_, _, (dss_cons (ds_parO (i := 3) (j := 4) rfl sc__law_falling.nd rfl rfl (by decide) rfl rfl (D__law_draw.call hr (by decide) gd (da_arg 0 (da_cons (dv 1) da_nil))) (df_lst da_nil) (by rfl))
      (dss_cons (ds_for PassesOwn.never rfl (di_range1 rfl B.b_range (da_cons (D__law_draw.call hr (by decide) gd (da_arg 0 (da_cons (de_add (dv 2) de_int) da_nil))) da_nil)) (dg_name (i := 5) sc__law_falling.nd rfl (by first | exact Or.inl rfl | exact Or.inr rfl)) (dss_cons (ds_asg (D__law_some_look.call hr (by decide) gd (da_arg 0 (da_cons (dv 1) da_nil))) (dg_tup (n := 3) rfl (dgs_cons (dg_name (i := 6) sc__law_falling.nd rfl (by first | exact Or.inl rfl | exact Or.inr rfl)) (dgs_cons (dg_name (i := 7) sc__law_falling.nd rfl (by first | exact Or.inl rfl | exact Or.inr rfl)) (dgs_cons (dg_name (i := 8) sc__law_falling.nd rfl (by first | exact Or.inl rfl | exact Or.inr rfl)) dgs_nil)))))
      (dss_one (ds_if (DW.dt' (dw_or (dt_gt (de_ix (dv 8) (dv 3)) (de_ix (dv 8) (de_add (dv 1) (dv 3)))) (dw_or1 (dt_eq hr.units (D__law_draw.call hr (by decide) gd (da_arg 0 (da_cons de_int da_nil))) de_int)))) (dss_one (ds_app (i := 4) (pv 4) (de_tup (da_cons (dv 6) (da_cons (dv 7) (da_cons (dv 8) da_nil)))) (hpe := (pe_bm PySem.F.plainAttrs_list PySem.F.slot_list_append PySem.F.type_list_append mt_append (pv 4) (pa_cons (DE.pe (de_tup (da_cons (dv 6) (da_cons (dv 7) (da_cons (dv 8) da_nil))))) pa_nil))))) (dss_one (ds_if (dt_lt (de_ix (dv 8) (dv 3)) (de_ix (dv 8) (de_add (dv 1) (dv 3)))) (dss_one (ds_app (i := 4) (pv 4) (de_tup (da_cons (dv 6) (da_cons (dv 7) (da_cons (de_add (de_sl (dv 8) (do_some (dv 1)) do_none) (de_sl (dv 8) do_none (do_some (dv 1)))) da_nil)))) (hpe := (pe_bm PySem.F.plainAttrs_list PySem.F.slot_list_append PySem.F.type_list_append mt_append (pv 4) (pa_cons (DE.pe (de_tup (da_cons (dv 6) (da_cons (dv 7) (da_cons (de_add (de_sl (dv 8) (do_some (dv 1)) do_none) (de_sl (dv 8) do_none (do_some (dv 1)))) da_nil))))) pa_nil))))) dss_nil))))))
      (dss_one (ds_frz 4 (ds_ret (de_tuple B.b_tuple (da_cons (de_sortSetN rfl hr.units B.b_sorted B.b_set (dv 4)) da_nil))))))), ?_⟩
  intro svs Φ hl hw
  unfold w__law_falling at hw
  split at hw
  · rename_i most
    obtain ⟨n, rfl, hn, k0, k1, hw⟩ := hw
    walk_at "dw"
    refine ⟨by omega, small_nat (by omega), fun a a0 a1 => ?_⟩
    refine ⟨Nat.zero_le _, by decide, by omega, small_nat (by omega), fun r r0 r1 => ⟨by omega, by omega, ?_⟩⟩
    refine forW_ind (fun i δ => ∃ zs s5 s6 s7 s8, δ = [.pen, .d (.int (n : Nat)), .d (.int most), .d (.int a), .own zs, s5, s6, s7, s8] ∧ (∀ z ∈ zs, z ∈ everyL n) ∧ zs.length ≤ i) ⟨[], _, _, _, _, rfl, fun _ z => (nomatch z), Nat.le_refl _⟩ ?_ ?_
    · rintro i x δ k hx ⟨zs, s5, s6, s7, s8, rfl, hz, hl2⟩ hk
      obtain ⟨rfl, hi⟩ := upto_get hx
      walk_at "dw"
      refine ⟨n, rfl, hn, fun l hl3 => ?_⟩
      obtain ⟨s, t, row, rfl, hs, ht, hord⟩ := every_iff.mp hl3
      have hrow := order_row hn hord
      unfold lk
      walk_at "dw"
      obtain ⟨v1, e1⟩ := row_at hrow a0 (by omega)
      obtain ⟨v2, e2⟩ := row_at hrow (i := (n : Int) + a) (by omega) (by omega)
      have fin : ∀ r', r' ∈ ordersD n → 3 ≤ sizeLine ∧ zs.length < sizeLine ∧ k [.pen, .d (.int (n : Nat)), .d (.int most), .d (.int a), .own (zs ++ [lk s t r']), .d (.int (0 + (i : Nat))), .d (.int s), .d (.int t), .d (tupI row)] := fun r' hr' => by
        refine ⟨small_line (by decide), Nat.lt_of_le_of_lt hl2 (Nat.lt_of_lt_of_le (show i < 200 by omega) (small_line (by decide))), hk _ ⟨_, _, _, _, _, rfl, fun z hz2 => ?_, by rw [List.length_append, List.length_singleton]; omega⟩⟩
        rcases List.mem_append.mp hz2 with z2 | z2
        · exact hz z z2
        · rw [List.mem_singleton.mp z2]
          exact every_iff.mpr ⟨s, t, r', rfl, hs, ht, hr'⟩
      simp only [e1, e2, fI_int, asB_bool, true_and]
      split
      · exact fin row hord
      · refine ⟨by decide, small_nat (by decide), fun z z0 z1 => ?_⟩
        simp only [fEq_int, shaped_int, true_and, asB_bool]
        split
        · exact fin row hord
        · split
          · unfold tupI
            simp only [fSl_tuple]
            rw [cut_from _ _ (by rw [List.length_map, hrow.1]; omega), cut_to _ _ (by rw [List.length_map, hrow.1]; omega), fAdd_tuple]
            have := hrow.1
            refine ⟨small_line (by rw [List.length_drop, List.length_take, List.length_map]; omega), ?_⟩
            rw [← List.map_drop, ← List.map_take, ← List.map_append]
            exact fin _ (order_swap hord)
          · exact hk _ ⟨zs, _, _, _, _, rfl, hz, Nat.le_succ_of_le hl2⟩
    · rintro δ ⟨zs, s5, s6, s7, s8, rfl, hz, hl2⟩
      rw [upto_len] at hl2
      walk_at "dw"
      refine ⟨zs, rfl, every_set hn hz (by omega), fun es up => ?_⟩
      exact hw es (fun z hm => hz z ((up.mem z).mp hm)) (by have := up.len; omega)
  · exact hw.elim

abbrev s__law_any_table : Stmt := topS 25
theorem sc__law_any_table : FnScope ["pen", "many", "most"] ["pen", "many", "most"] (defScope s__law_any_table) := ⟨rfl, rfl, rfl, by decide +kernel, rfl, by decide +kernel, by decide +kernel⟩
/-- some table of m numbers -/
def w__law_any_table : WFn := fun svs Φ => match svs with
  | [.pen, .d (.int m), .d (.int k)] => ∃ n : Nat, m = (n : Nat) ∧ (n = 1 ∨ n = 2) ∧ 0 ≤ k ∧ k ≤ 100 ∧ ∀ zs, (∀ z ∈ zs, z ∈ everyL n) → zs.length ≤ 150 → Φ (.tuple zs)
  | _ => False
theorem ok__law_any_table (B : Blt mg) (hs : ∃ o, base.get? sysModules = some o) (D__law_draw : DefD P w K mg base 2 "_law_draw" 2 w__law_draw) (D__law_some_table : DefD P w K mg base 5 "_law_some_table" 3 w__law_some_table) (D__law_falling : DefD P w K mg base 5 "_law_falling" 3 w__law_falling)  (F : HasDef K mg "_law_any_table" s__law_any_table ["pen", "many", "most"]) : DefD P w K mg base 6 "_law_any_table" 3 w__law_any_table := by
  refine F.ok (k := 5) sc__law_any_table fun f cdv A outer s H E hr gd => ⟨_, _, (dss_cons (ds_if (dt_eq hr.units (D__law_draw.call hr (by decide) gd (da_arg 0 (da_cons de_int da_nil))) de_int) (dss_one (ds_ret (D__law_some_table.call hr (by decide) gd (da_arg 0 (da_cons (dv 1) (da_cons (dv 2) da_nil)))))) dss_nil)
      (dss_one (ds_ret (D__law_falling.call hr (by decide) gd (da_arg 0 (da_cons (dv 1) (da_cons (dv 2) da_nil))))))), ?_⟩
  intro svs Φ hl hw
  unfold w__law_any_table at hw
  split at hw
  · obtain ⟨n, rfl, hn, k0, k1, hw⟩ := hw
    walk_at "dw"
    refine ⟨by decide, small_nat (by decide), fun r r0 r1 => ?_⟩
    simp only [fEq_int, shaped_int, true_and, asB_bool]
    split
    · exact ⟨n, rfl, hn, k0, k1, hw⟩
    · exact ⟨n, rfl, hn, k0, k1, hw⟩
  · exact hw.elim

end
end DL
namespace DL
open PySem PySem.Spec PyProof.Rows L2
local macro_rules | `(tactic| walk_at "dw") => `(tactic| simp only [wSeq, wIfS, wB, wOp, fCmp, wPen, wVar, wPenSet, wArg, wNil, wCons, wCall, f1, f2, wSet, wRet, wRetN, wNx, wAnd, wOr, wUn, wIf, wTru, wNotT, wAndT, wOrT, wC, wData, wTup, wLst, wLc, wIS, wIL, wIT, wFor, wSl, wPar, wAsg, wgName, wgTup, wgNil, wgCons, wOwn, wApp, wExt, wFrz, frz, wDrop, wYes, wLc2, wDc, wSortSet, wLenSet, wLenSetT, wSortSetN, wParO, wLenL, wDget, wZip, wZip3, wParF, wTriD, wOwnD, wFrzD, DL.frzD, wLenO, wIxO, wChain, wDef, wNever, fLen, allD, Option.map_some, wipeD,
    List.map_cons, List.map_nil, List.cons_append, List.nil_append, List.append_nil, List.replicate_succ, List.replicate_zero, List.getElem?_cons_zero, List.getElem?_cons_succ, List.set_cons_zero, List.set_cons_succ, List.length_cons, List.length_nil, Nat.reduceAdd, Nat.reduceSub, List.getElem?_nil, Int.reduceEq, if_true, if_false, reduceIte, fI_int, fAdd_int, fAdd_str, fAdd_list, fAdd_tuple, asI_int, asB_bool, fSl_list, fSl_tuple, fEq_str, fNe_str, fNe_list, fEq_list, fEq_int, fEq_unit, fNe_int, shaped_int, Bool.false_eq_true, true_or, or_true, true_and, and_true, false_or, or_false])
local macro_rules | `(tactic| walk_at "dx") => `(tactic| simp only [wSeq, wIfS, wB, wOp, fCmp, wPen, wVar, wPenSet, wArg, wNil, wCons, wCall, f1, f2, wSet, wRet, wRetN, wNx, wAnd, wOr, wUn, wIf, wTru, wNotT, wAndT, wOrT, wC, wData, wTup, wLst, wLc, wIS, wIL, wIT, wFor, wSl, wPar, wAsg, wgName, wgTup, wgNil, wgCons, wOwn, wApp, wExt, wFrz, frz, wDrop, wYes, wLc2, wDc, wSortSet, wLenSet, wLenSetT, wSortSetN, wParO, wLenL, wDget, wZip, wZip3, wParF, wTriD, wOwnD, wFrzD, DL.frzD, wLenO, wIxO, wChain, wDef, wNever, fLen, allD, Option.map_some, wipeD,
    List.map_cons, List.map_nil, List.cons_append, List.nil_append, List.append_nil, List.replicate_succ, List.replicate_zero, List.getElem?_cons_zero, List.getElem?_cons_succ, List.set_cons_zero, List.set_cons_succ, List.length_cons, List.length_nil, Nat.reduceAdd, Nat.reduceSub, List.getElem?_nil, Int.reduceEq, if_true, if_false, reduceIte, fI_int, fAdd_int, fAdd_str, fAdd_list, fAdd_tuple, asI_int, asB_bool, fSl_list, fSl_tuple, fEq_str, fNe_str, fNe_list, fEq_list, fEq_int, fEq_unit, fNe_int, shaped_int, Bool.false_eq_true, true_or, or_true, true_and, and_true, false_or, or_false, fIsi_intE, fIsi_boolE, fIsi_tupleE, isIntB, isBoolB, isTupB, truD, Bool.not_false, Bool.not_true])
section
variable {P : Program} {w : World} {K : PySem.W.Frag} {mg : Str → Option Value} {base : Heap}
def leqB (a b : PyData) : Bool := match a, b with
  | .int i, .int j => decide (i ≤ j)
  | _, _ => false
def visB (m : Int) (v : PyData) : Bool := match v with
  | .tuple (a :: b :: ds) => decide ((ds.length : Int) = m) && (standB a && (standB b && ds.all posB) && leqB a b)
  | _ => false
theorem visB_ne {m : Int} {ds : List PyData} (h : ¬ ((ds.length : Nat) : Int) = 2 + m) : visB m (.tuple ds) = false := by
  match ds, h with
  | [], _ => rfl
  | [_], _ => rfl
  | a :: b :: ds, h =>
    show (decide (((ds.length : Nat) : Int) = m) && _) = false
    rw [decide_eq_false (by simp only [List.length_cons] at h; omega), Bool.false_and]
theorem two_more {ds : List PyData} {m : Int} (hm : 0 < m) (h : ((ds.length : Nat) : Int) = 2 + m) : ∃ a b es, ds = a :: b :: es ∧ ((es.length : Nat) : Int) = m := by
  match ds, h with
  | [], h => simp at h; omega
  | [_], h => simp at h; omega
  | a :: b :: es, h => exact ⟨a, b, es, rfl, by simp only [List.length_cons] at h; omega⟩
theorem node_at {m : Int} {b : PyData} {es : List PyData} (h : ((es.length : Nat) : Int) = m) : nodeB m (.tuple (b :: es)) = (standB b && es.all posB) := by
  unfold nodeB
  simp only [h, decide_true, Bool.true_and]
theorem vis_at {m : Int} {a b : PyData} {es : List PyData} (h : ((es.length : Nat) : Int) = m) : visB m (.tuple (a :: b :: es)) = (standB a && (standB b && es.all posB) && leqB a b) := by
  unfold visB
  simp only [h, decide_true, Bool.true_and]
theorem stand_int {d : PyData} (h : standB d = true) : ∃ i : Int, d = .int i ∧ (i = 0 ∨ i = 1) := by
  cases d with
  | int i => exact ⟨i, rfl, by unfold standB at h; simpa using h⟩
  | _ => exact absurd h Bool.false_ne_true

abbrev s_is_visit : Stmt := topS 10
theorem sc_is_visit : FnScope ["many", "value"] ["many", "value"] (defScope s_is_visit) := ⟨rfl, rfl, rfl, by decide +kernel, rfl, by decide +kernel, by decide +kernel⟩
def w_is_visit : WFn := f2 fun e v Φ => ∃ m : Int, e = .int m ∧ 0 < m ∧ wid v ≤ 999 ∧ Φ (.bool (visB m v))
theorem ok_is_visit (B : Blt mg) (hs : ∃ o, base.get? sysModules = some o) (D_is_node : DefD P w K mg base 3 "is_node" 2 w_is_node) (D_is_standing : DefD P w K mg base 2 "is_standing" 1 w_is_standing)  (F : HasDef K mg "is_visit" s_is_visit ["many", "value"]) : DefD P w K mg base 4 "is_visit" 2 w_is_visit := by
  refine F.ok (k := 3) sc_is_visit fun f cdv A outer s H E hr gd => ⟨_, _, (dss_cons (ds_if (DW.dt' (dw_or (dt_not (dt_tru (de_isi (T := "tuple") B.b_isinstance B.b_tuple (dv 1) (by decide +kernel)))) (dw_or1 (dt_ne hr.units (de_len B.b_len (da_cons (dv 1) da_nil)) (de_add de_int (dv 0)))))) (dss_one (ds_ret de_bl)) dss_nil)
      (dss_one (ds_ret (de_and (D_is_standing.call hr (by decide) gd (da_cons (de_ix (dv 1) de_int) da_nil)) (de_and (D_is_node.call hr (by decide) gd (da_cons (dv 0) (da_cons (de_sl (dv 1) (do_some de_int) do_none) da_nil))) (de_one (de_le (de_ix (dv 1) de_int) (de_ix (dv 1) de_int)))))))), ?_⟩
  intro svs Φ hl hw
  replace hw := f2_out hw
  obtain ⟨e, v, rfl, m, rfl, hm, hv, hw⟩ := hw
  cases v with
  | tuple ds =>
    walk_at "dx"
    by_cases c : ((ds.length : Nat) : Int) = 2 + m
    · rw [if_neg (by simp; omega)]
      obtain ⟨a, b, es, rfl, hes⟩ := two_more hm c
      rw [vis_at hes] at hw
      have hwd : wid (.tuple (b :: es)) ≤ 1000 := by
        rw [wid_tuple] at hv ⊢
        have h1 : (a :: b :: es).length ≤ 999 := Nat.le_trans (Nat.le_max_left _ _) hv
        have h2 : widAll (a :: b :: es) ≤ 999 := Nat.le_trans (Nat.le_max_right _ _) hv
        have h3 : widAll (b :: es) ≤ 999 := widAll_le.mpr fun x hx => widAll_le.mp h2 x (List.mem_cons_of_mem _ hx)
        simp only [List.length_cons] at h1 ⊢
        omega
      refine ⟨a, at0, stand_run ?_⟩
      rw [asB_bool]
      split
      · rename_i k
        obtain ⟨i, rfl, hi⟩ := stand_int k
        rw [k, Bool.true_and] at hw
        rw [cut_tail]
        refine ⟨m, rfl, hm, hwd, ?_⟩
        rw [node_at hes]
        show asB (.bool (standB b && es.all posB)) _
        rw [asB_bool]
        split
        · rename_i k2
          rw [k2, Bool.true_and] at hw
          rw [Bool.and_eq_true] at k2
          obtain ⟨j, rfl, hj⟩ := stand_int k2.1
          refine ⟨_, at0, _, at1, ?_⟩
          exact ⟨trivial, hw⟩
        · rename_i k2
          rw [Bool.eq_false_iff.mpr k2, Bool.false_and] at hw
          exact hw
      · rename_i k
        rw [Bool.eq_false_iff.mpr k, Bool.false_and, Bool.false_and] at hw
        exact hw
    · rw [if_pos (by simp; omega)]
      rw [visB_ne c] at hw
      exact hw
  | _ =>
    walk_at "dx"
    exact hw

abbrev s__law_is_visit : Stmt := topS 34
theorem sc__law_is_visit : FnScope ["many", "value"] ["many", "value"] (defScope s__law_is_visit) := ⟨rfl, rfl, rfl, by decide +kernel, rfl, by decide +kernel, by decide +kernel⟩
def big60 : Int := 10 ^ Int.toNat 60
def low60 : PyData → Bool
  | .int i => decide (i ≤ big60)
  | _ => true
def secB (a b : PyData) : Bool := match a with
  | .int i => wholeB b i 1
  | _ => false
def visL (m : Int) (v : PyData) : Bool := match v with
  | .tuple (a :: b :: ds) => decide ((ds.length : Int) = m) && (wholeB a 0 1 && secB a b && (wholeB b 0 1 && ds.all fun x => wholeB x 1 big60))
  | _ => false
theorem visL_ne {m : Int} {ds : List PyData} (h : ¬ ((ds.length : Nat) : Int) = m + 2) : visL m (.tuple ds) = false := by
  match ds, h with
  | [], _ => rfl
  | [_], _ => rfl
  | a :: b :: ds, h =>
    show (decide (((ds.length : Nat) : Int) = m) && _) = false
    rw [decide_eq_false (by simp only [List.length_cons] at h; omega), Bool.false_and]
theorem visL_at {m : Int} {a b : PyData} {es : List PyData} (h : ((es.length : Nat) : Int) = m) : visL m (.tuple (a :: b :: es)) = (wholeB a 0 1 && secB a b && (wholeB b 0 1 && es.all fun x => wholeB x 1 big60)) := by
  unfold visL
  simp only [h, decide_true, Bool.true_and]
theorem whole_int {d : PyData} {lo hi : Int} (h : wholeB d lo hi = true) : ∃ i : Int, d = .int i ∧ lo ≤ i ∧ i ≤ hi := by
  cases d with
  | int i => exact ⟨i, rfl, by unfold wholeB at h; simpa using h⟩
  | _ => exact absurd h Bool.false_ne_true
def w__law_is_visit : WFn := f2 fun e v Φ => ∃ m : Int, e = .int m ∧ 0 < m ∧ wid v ≤ 999 ∧ Φ (.bool (visL m v))
theorem ok__law_is_visit (B : Blt mg) (hs : ∃ o, base.get? sysModules = some o) (D__law_is_node : DefD P w K mg base 2 "_law_is_node" 2 w__law_is_node) (D__law_whole : DefD P w K mg base 1 "_law_whole" 3 w__law_whole)  (F : HasDef K mg "_law_is_visit" s__law_is_visit ["many", "value"]) : DefD P w K mg base 3 "_law_is_visit" 2 w__law_is_visit := by
  refine F.ok (k := 2) sc__law_is_visit fun f cdv A outer s H E hr gd => ⟨_, _, (dss_cons (ds_if (DW.dt' (dw_or (dt_not (dt_tru (de_isi (T := "tuple") B.b_isinstance B.b_tuple (dv 1) (by decide +kernel)))) (dw_or1 (dt_ne hr.units (de_len B.b_len (da_cons (dv 1) da_nil)) (de_add (dv 0) de_int))))) (dss_one (ds_ret de_bl)) dss_nil)
      (dss_one (ds_ret (de_and (D__law_whole.call hr (by decide) gd (da_cons (de_ix (dv 1) de_int) (da_cons de_int (da_cons de_int da_nil)))) (de_and (D__law_whole.call hr (by decide) gd (da_cons (de_ix (dv 1) de_int) (da_cons (de_ix (dv 1) de_int) (da_cons de_int da_nil)))) (de_one (D__law_is_node.call hr (by decide) gd (da_cons (dv 0) (da_cons (de_sl (dv 1) (do_some de_int) do_none) da_nil))))))))), ?_⟩
  intro svs Φ hl hw
  replace hw := f2_out hw
  obtain ⟨e, v, rfl, m, rfl, hm, hv, hw⟩ := hw
  cases v with
  | tuple ds =>
    walk_at "dx"
    by_cases c : ((ds.length : Nat) : Int) = m + 2
    · rw [if_neg (by simp; omega)]
      obtain ⟨a, b, es, rfl, hes⟩ := two_more hm (show ((ds.length : Nat) : Int) = 2 + m by omega)
      rw [visL_at hes] at hw
      have hwd : wid (.tuple (b :: es)) ≤ 1000 := by
        rw [wid_tuple] at hv ⊢
        have h1 : (a :: b :: es).length ≤ 999 := Nat.le_trans (Nat.le_max_left _ _) hv
        have h2 : widAll (a :: b :: es) ≤ 999 := Nat.le_trans (Nat.le_max_right _ _) hv
        have h3 : widAll (b :: es) ≤ 999 := widAll_le.mpr fun x hx => widAll_le.mp h2 x (List.mem_cons_of_mem _ hx)
        simp only [List.length_cons] at h1 ⊢
        omega
      refine ⟨a, at0, ?_⟩
      show (if (wholeB a 0 1) = true then _ else Φ (.bool false))
      split
      · rename_i k
        obtain ⟨i, rfl, i0, i1⟩ := whole_int k
        rw [k, Bool.true_and] at hw
        replace hw : Φ (.bool (wholeB b i 1 && (wholeB b 0 1 && es.all fun x => wholeB x 1 big60))) := hw
        refine ⟨b, at1, _, at0, ?_⟩
        show (if (wholeB b i 1) = true then _ else Φ (.bool false))
        split
        · rename_i k2
          simp only [k2, Bool.true_and] at hw
          rw [cut_tail]
          refine ⟨m, rfl, hm, hwd, ?_⟩
          simp only [hes, decide_true, Bool.true_and]
          exact hw
        · rename_i k2
          simp only [Bool.eq_false_iff.mpr k2, Bool.false_and] at hw
          exact hw
      · rename_i k
        rw [Bool.eq_false_iff.mpr k, Bool.false_and, Bool.false_and] at hw
        exact hw
    · rw [if_pos (by simp; omega)]
      rw [visL_ne c] at hw
      exact hw
  | _ =>
    walk_at "dx"
    exact hw

end
end DL
namespace DL
open PySem PySem.Spec PyProof.Rows L2
local macro_rules | `(tactic| walk_at "dw") => `(tactic| simp only [wSeq, wIfS, wB, wOp, fCmp, wPen, wVar, wPenSet, wArg, wNil, wCons, wCall, f1, f2, wSet, wRet, wRetN, wNx, wAnd, wOr, wUn, wIf, wTru, wNotT, wAndT, wOrT, wC, wData, wTup, wLst, wLc, wIS, wIL, wIT, wFor, wSl, wPar, wAsg, wgName, wgTup, wgNil, wgCons, wOwn, wApp, wExt, wFrz, frz, wDrop, wYes, wLc2, wDc, wSortSet, wLenSet, wLenSetT, wSortSetN, wParO, wLenL, wDget, wZip, wZip3, wParF, wTriD, wOwnD, wFrzD, DL.frzD, wLenO, wIxO, wChain, wDef, wNever, fLen, allD, Option.map_some, wipeD,
    List.map_cons, List.map_nil, List.cons_append, List.nil_append, List.append_nil, List.replicate_succ, List.replicate_zero, List.getElem?_cons_zero, List.getElem?_cons_succ, List.set_cons_zero, List.set_cons_succ, List.length_cons, List.length_nil, Nat.reduceAdd, Nat.reduceSub, List.getElem?_nil, Int.reduceEq, if_true, if_false, reduceIte, fI_int, fAdd_int, fAdd_str, fAdd_list, fAdd_tuple, asI_int, asB_bool, fSl_list, fSl_tuple, fEq_str, fNe_str, fNe_list, fEq_list, fEq_int, fEq_unit, fNe_int, shaped_int, Bool.false_eq_true, true_or, or_true, true_and, and_true, false_or, or_false])
local macro_rules | `(tactic| walk_at "dx") => `(tactic| simp only [wSeq, wIfS, wB, wOp, fCmp, wPen, wVar, wPenSet, wArg, wNil, wCons, wCall, f1, f2, wSet, wRet, wRetN, wNx, wAnd, wOr, wUn, wIf, wTru, wNotT, wAndT, wOrT, wC, wData, wTup, wLst, wLc, wIS, wIL, wIT, wFor, wSl, wPar, wAsg, wgName, wgTup, wgNil, wgCons, wOwn, wApp, wExt, wFrz, frz, wDrop, wYes, wLc2, wDc, wSortSet, wLenSet, wLenSetT, wSortSetN, wParO, wLenL, wDget, wZip, wZip3, wParF, wTriD, wOwnD, wFrzD, DL.frzD, wLenO, wIxO, wChain, wDef, wNever, fLen, allD, Option.map_some, wipeD,
    List.map_cons, List.map_nil, List.cons_append, List.nil_append, List.append_nil, List.replicate_succ, List.replicate_zero, List.getElem?_cons_zero, List.getElem?_cons_succ, List.set_cons_zero, List.set_cons_succ, List.length_cons, List.length_nil, Nat.reduceAdd, Nat.reduceSub, List.getElem?_nil, Int.reduceEq, if_true, if_false, reduceIte, fI_int, fAdd_int, fAdd_str, fAdd_list, fAdd_tuple, asI_int, asB_bool, fSl_list, fSl_tuple, fEq_str, fNe_str, fNe_list, fEq_list, fEq_int, fEq_unit, fNe_int, shaped_int, Bool.false_eq_true, true_or, or_true, true_and, and_true, false_or, or_false, fIsi_intE, fIsi_boolE, fIsi_tupleE, isIntB, isBoolB, isTupB, truD, Bool.not_false, Bool.not_true])
section
variable {P : Program} {w : World} {K : PySem.W.Frag} {mg : Str → Option Value} {base : Heap}
theorem eqv_nil (xs : List PyData) : PyData.eqv (.list xs) (.list []) = xs.isEmpty := by
  cases xs <;> rfl
theorem eqv_nilT (xs : List PyData) : PyData.eqv (.tuple xs) (.tuple []) = xs.isEmpty := by
  cases xs <;> rfl
theorem shaped_tab {n : Nat} (hn : n = 1 ∨ n = 2) {ds : List PyData} (h : ∀ d ∈ ds, d ∈ everyL n) : SeqAt.shaped (.tuple ds) = true := by
  have h1 : PyData.canLayAll0 ds = true := layAll fun d hd => by
    obtain ⟨s, t, r, rfl, _⟩ := every_is hn (h d hd)
    exact lk_lay s t r
  have h2 : PyData.depthAll ds ≤ 2 := depthAll_le.mpr fun d hd => (every_is hn (h d hd)).depth
  unfold SeqAt.shaped
  refine Bool.and_eq_true_iff.mpr ⟨h1, decide_eq_true ?_⟩
  show PyData.depthAll ds + 1 ≤ 64
  omega
theorem shaped_nil_t : SeqAt.shaped (.tuple []) = true := shaped_ints_t []
/-- a visit of m numbers -/
def IsVis (m : Nat) (v : PyData) : Prop := ∃ (a b : Int) (ns : List Int), v = .tuple (.int a :: .int b :: ns.map .int) ∧ ns.length = m
theorem pos_ints : ∀ {ds : List PyData}, ds.all posB = true → ∃ ns : List Int, ds = ns.map .int
  | [], _ => ⟨[], rfl⟩
  | .int i :: r, h => by
    rw [List.all_cons, Bool.and_eq_true] at h
    obtain ⟨ns, e⟩ := pos_ints h.2
    exact ⟨i :: ns, by rw [e]; rfl⟩
  | .none :: r, h => by simp [posB] at h
  | .bool _ :: r, h => by simp [posB] at h
  | .str _ :: r, h => by simp [posB] at h
  | .list _ :: r, h => by simp [posB] at h
  | .tuple _ :: r, h => by simp [posB] at h
  | .dict _ :: r, h => by simp [posB] at h
theorem vis_form {n : Nat} {v : PyData} (h : visB n v = true) : IsVis n v := by
  match v, h with
  | .tuple (a :: b :: ds), h =>
    unfold visB at h
    simp only [Bool.and_eq_true, decide_eq_true_eq] at h
    obtain ⟨h1, ⟨h2, h3, h4⟩, h5⟩ := h
    obtain ⟨i, rfl, _⟩ := stand_int h2
    obtain ⟨j, rfl, _⟩ := stand_int h3
    obtain ⟨ns, rfl⟩ := pos_ints h4
    exact ⟨i, j, ns, rfl, by rw [List.length_map] at h1; omega⟩
/-- the look from a visit, as it is left, to another one, as the packet comes -/
def hop2 : PyData → PyData → PyData
  | .tuple (_ :: .int b :: ds), .tuple (.int c :: _ :: es) => lk b c (ranks ((ds ++ es).map unI))
  | _, _ => .none
theorem hop_at (a b c d : Int) (ns ms : List Int) : hop2 (.tuple (.int a :: .int b :: ns.map .int)) (.tuple (.int c :: .int d :: ms.map .int)) = lk b c (ranks (ns ++ ms)) := by
  show lk b c (ranks ((ns.map PyData.int ++ ms.map PyData.int).map unI)) = _
  rw [← List.map_append, map_unI]
def hopP : PyData → PyData
  | .tuple [u, v] => hop2 u v
  | _ => .none
def hopsD (vs : List PyData) : List PyData := (zipD vs (vs.drop 1)).map hopP
theorem hops_len (vs : List PyData) : (hopsD vs).length ≤ vs.length := by
  unfold hopsD
  rw [List.length_map, zip_len]
  omega
theorem hop_mem {m : Nat} {vs : List PyData} (h : ∀ v ∈ vs, IsVis m v) {l : PyData} (hl : l ∈ hopsD vs) : ∃ b c r, l = lk b c r := by
  unfold hopsD at hl
  obtain ⟨p, hp, rfl⟩ := List.mem_map.mp hl
  obtain ⟨i, hi⟩ := List.mem_iff_getElem?.mp hp
  obtain ⟨x, y, hx, hy, rfl⟩ := zip_at hi
  obtain ⟨a, b, ns, rfl, _⟩ := h x (List.mem_of_getElem? hx)
  obtain ⟨c, d, ms, rfl, _⟩ := h y (List.mem_of_mem_drop (List.mem_of_getElem? hy))
  exact ⟨b, c, _, hop_at a b c d ns ms⟩
theorem drop1 (vs : List PyData) (h : vs ≠ []) : cutD vs (some 1) none = vs.drop 1 := by
  rw [show (1 : Int) = ((1 : Nat) : Int) from rfl, cut_from _ _ (List.length_pos_iff.mpr h)]
theorem drop2 (a b : PyData) (ds : List PyData) : cutD (a :: b :: ds) (some 2) none = ds := by
  rw [show (2 : Int) = ((2 : Nat) : Int) from rfl, cut_from _ _ (by simp)]
  rfl
theorem drop1c (a : PyData) (ds : List PyData) : cutD (a :: ds) (some 1) none = ds := cut_tail a ds

abbrev s_hops_of : Stmt := topS 11
theorem sc_hops_of : FnScope ["journey", "one", "other"] ["journey"] (defScope s_hops_of) := ⟨rfl, rfl, rfl, by decide +kernel, rfl, by decide +kernel, by decide +kernel⟩
def w_hops_of : WFn := f1 fun d Φ => ∃ (m : Nat) (vs : List PyData), d = .tuple vs ∧ m ≤ 30 ∧ vs ≠ [] ∧ vs.length ≤ 2000 ∧ (∀ v ∈ vs, IsVis m v) ∧ Φ (.list (hopsD vs))
theorem ok_hops_of (B : Blt mg) (hs : ∃ o, base.get? sysModules = some o) (D_look_between : DefD P w K mg base 2 "look_between" 2 w_look_between)  (F : HasDef K mg "hops_of" s_hops_of ["journey"]) : DefD P w K mg base 3 "hops_of" 1 w_hops_of := by
  refine F.ok (k := 2) sc_hops_of fun f cdv A outer s H E hr gd => ⟨_, _, (dss_one (ds_ret (DF.to (df_lc (own := [("one", 1), ("other", 2)]) rfl sc_hops_of.nd (di_zip B.b_zip (da_cons (dv 0) (da_cons (de_sl (dv 0) (do_some de_int) do_none) da_nil))) (blkOk_by (N := ["journey", "one", "other"]) (sc := (defScope s_hops_of)) (own := [("one", 1), ("other", 2)]) (by decide +kernel)) (by decide) (fun _ _ _ _ _ => (dg_tup (n := 2) rfl (dgs_cons (dg_name (i := 1) sc_hops_of.nd rfl (by first | exact Or.inl rfl | exact Or.inr rfl)) (dgs_cons (dg_name (i := 2) sc_hops_of.nd rfl (by first | exact Or.inl rfl | exact Or.inr rfl)) dgs_nil)))) (fun _ _ _ _ _ => dts_nil) (fun _ _ _ _ _ => (D_look_between.call hr (by decide) gd (da_cons (de_sl (dv 1) (do_some de_int) do_none) (da_cons (de_add (de_tup (da_cons (de_ix (dv 2) de_int) da_nil)) (de_sl (dv 2) (do_some de_int) do_none)) da_nil)))))))), ?_⟩
  intro svs Φ hl hw
  replace hw := f1_out hw
  obtain ⟨d, rfl, m, vs, rfl, hm, hne, hz, hv, hw⟩ := hw
  walk_at "dw"
  rw [drop1 vs hne]
  refine lcW_map hopP (fun x hx yes hy => ?_) (small_line (by rw [zip_len]; omega)) hw
  obtain ⟨i, hi⟩ := List.mem_iff_getElem?.mp hx
  obtain ⟨x, y, hx2, hy2, rfl⟩ := zip_at hi
  obtain ⟨a, b, ns, rfl, l1⟩ := hv x (List.mem_of_getElem? hx2)
  obtain ⟨c, d, ms, rfl, l2⟩ := hv y (List.mem_of_mem_drop (List.mem_of_getElem? hy2))
  have e0 : hopP (.tuple [.tuple (.int a :: .int b :: ns.map .int), .tuple (.int c :: .int d :: ms.map .int)]) = lk b c (ranks (ns ++ ms)) := hop_at a b c d ns ms
  rw [e0] at hy
  walk_at "dw"
  rw [drop2, ix_0, cut_tail]
  exact ⟨small_line (by decide), small_line (by simp; omega), .int b, .int c, ns, ms, rfl, rfl, by omega, hy⟩

abbrev s_is_journey : Stmt := topS 12
theorem sc_is_journey : FnScope ["table", "value", "told", "look", "visit"] ["table", "value"] (defScope s_is_journey) := ⟨rfl, rfl, rfl, by decide +kernel, rfl, by decide +kernel, by decide +kernel⟩
/-- values that are asked -/
def WidOk (v : PyData) : Prop := ∀ vs, v = .tuple vs → vs.length ≤ 1500 ∧ ∀ x ∈ vs, wid x ≤ 900
def jB (zs : List PyData) (n : Nat) (v : PyData) : Bool := match v with
  | .tuple vs => (decide (3 ≤ vs.length) && decide (vs.length ≤ 1000)) && (!zs.isEmpty && vs.all (visB n)) && (hopsD vs).all fun l => zs.any fun z => PyData.eqv z l
  | _ => false
def w_is_journey : WFn := f2 fun t v Φ => ∃ (zs : List PyData) (n : Nat), t = .tuple zs ∧ (n = 1 ∨ n = 2) ∧ (∀ z ∈ zs, z ∈ everyL n) ∧ zs.length ≤ 400 ∧ WidOk v ∧ Φ (.bool (jB zs n v))
theorem ok_is_journey (B : Blt mg) (hs : ∃ o, base.get? sysModules = some o) (D_is_visit : DefD P w K mg base 4 "is_visit" 2 w_is_visit) (D_hops_of : DefD P w K mg base 3 "hops_of" 1 w_hops_of) (C_FEWEST_VISITS : ∃ t, mg "FEWEST_VISITS" = some (.int 3 t)) (C_MOST_VISITS : ∃ t, mg "MOST_VISITS" = some (.int 1000 t)) (F : HasDef K mg "is_journey" s_is_journey ["table", "value"]) : DefD P w K mg base 5 "is_journey" 2 w_is_journey := by
  refine F.ok (k := 4) sc_is_journey fun f cdv A outer s H E hr gd => ⟨_, _, (dss_cons (ds_if (DW.dt' (dw_or (dt_not (dt_tru (de_isi (T := "tuple") B.b_isinstance B.b_tuple (dv 1) (by decide +kernel)))) (dw_or1 (dt_not (dt_lele (de_glI C_FEWEST_VISITS) (de_len B.b_len (da_cons (dv 1) da_nil)) (de_glI C_MOST_VISITS)))))) (dss_one (ds_ret de_bl)) dss_nil)
      (dss_cons (ds_if (DW.dt' (dw_or (dt_not (dt_tru (dv 0))) (dw_or1 (dt_not (dt_tru (de_all rfl B.b_all (da_cons (DF.to (df_lc (own := [("visit", 4)]) rfl sc_is_journey.nd (di_seq (dv 1)) (blkOk_by (N := ["table", "value", "told", "look", "visit"]) (sc := (defScope s_is_journey)) (own := [("visit", 4)]) (by decide +kernel)) (by decide) (fun _ _ _ _ _ => (dg_name (i := 4) sc_is_journey.nd rfl (by first | exact Or.inl rfl | exact Or.inr rfl))) (fun _ _ _ _ _ => dts_nil) (fun _ _ _ _ _ => (D_is_visit.call hr (by decide) gd (da_cons (de_fdiv (de_len B.b_len (da_cons (de_ix (de_ix (dv 0) de_int) de_int) da_nil)) de_int) (da_cons (dv 4) da_nil)))))) da_nil))))))) (dss_one (ds_ret de_bl)) dss_nil)
      (dss_cons (ds_setK (i := 2) sc_is_journey.nd rfl (by first | exact Or.inl rfl | exact Or.inr rfl) (dk_dc (own := [("look", 3)]) rfl hr.units sc_is_journey.nd (di_seq (dv 0)) (blkOk_by (N := ["table", "value", "told", "look", "visit"]) (sc := (defScope s_is_journey)) (own := [("look", 3)]) (by decide +kernel)) (by decide) (fun _ _ _ _ _ => (dg_name (i := 3) sc_is_journey.nd rfl (by first | exact Or.inl rfl | exact Or.inr rfl))) (fun _ _ _ _ _ => dts_nil) (fun _ _ _ _ _ => (dv 3)) (fun _ _ _ _ _ => de_bl)))
      (dss_one (ds_ret (de_all rfl B.b_all (da_cons (DF.to (df_lc (own := [("look", 3)]) rfl sc_is_journey.nd (di_seq (D_hops_of.call hr (by decide) gd (da_cons (dv 1) da_nil))) (blkOk_by (N := ["table", "value", "told", "look", "visit"]) (sc := (defScope s_is_journey)) (own := [("look", 3)]) (by decide +kernel)) (by decide) (fun _ _ _ _ _ => (dg_name (i := 3) sc_is_journey.nd rfl (by first | exact Or.inl rfl | exact Or.inr rfl))) (fun _ _ _ _ _ => dts_nil) (fun _ _ _ _ _ => (de_kin (j := 2) hr.units (dv 3))))) da_nil))))))), ?_⟩
  intro svs Φ hl hw
  replace hw := f2_out hw
  obtain ⟨t, v, rfl, zs, n, rfl, hn, hzs, hz, hv, hw⟩ := hw
  cases v with
  | tuple vs =>
    obtain ⟨hv1, hv2⟩ := hv vs rfl
    walk_at "dx"
    have e3 : jB zs n (.tuple vs) = ((decide (3 ≤ vs.length) && decide (vs.length ≤ 1000)) && (!zs.isEmpty && vs.all (visB n)) && (hopsD vs).all fun l => zs.any fun z => PyData.eqv z l) := rfl
    rw [e3] at hw
    by_cases c1 : 3 ≤ vs.length ∧ vs.length ≤ 1000
    · simp only [c1.1, c1.2, decide_true, Bool.true_and] at hw
      simp only [show (3 : Int) ≤ (vs.length : Nat) by omega, show ((vs.length : Nat) : Int) ≤ 1000 by omega, decide_true, if_true, Bool.not_true, Bool.false_eq_true, if_false]
      cases zs with
      | nil => exact hw
      | cons z0 zr =>
        rw [if_neg (by simp)]
        obtain ⟨s0, t0, r0, e0, _, _, ho0⟩ := every_iff.mp (hzs z0 List.mem_cons_self)
        simp only [List.isEmpty_cons, Bool.not_false, Bool.true_and] at hw
        refine lcW_map (fun x => .bool (visB n x)) (fun x hx yes hy => ?_) (small_line (by omega)) ?_
        · walk_at "dw"
          rw [ix_0, e0]
          unfold lk
          rw [ix_2]
          refine ⟨⟨by decide, by decide⟩, ?_⟩
          have hl4 : (r0.map PyData.int).length = 2 * n := by rw [List.length_map, order_len ho0]
          refine ⟨((n : Nat) : Int), by rw [hl4]; congr 1; omega, by omega, Nat.le_trans (hv2 x hx) (by decide), hy⟩
        · have em : vs.map (fun x => PyData.bool (visB n x)) = (vs.map (visB n)).map .bool := by rw [List.map_map]; rfl
          rw [em]
          unfold fAll
          simp only [asBs_bools, List.all_map, Function.comp_def, id]
          cases hall : vs.all (visB n) with
          | false =>
            simp only [hall, Bool.false_and] at hw
            exact hw
          | true =>
            simp only [hall, Bool.true_and] at hw
            rw [if_neg (by decide)]
            unfold wSetK wKc
            walk_at "dw"
            generalize z0 :: zr = zs at *
            refine kcW_ind (fun i ps => KeysOf id (zs.take i) ps) .nil (fun i x ps k hx ih hk => ?_) fun ps ih => ?_
            · have hx1 := hzs x (List.mem_of_getElem? hx)
              have hi := (List.getElem?_eq_some_iff.mp hx).1
              walk_at "dw"
              have nk := (every_is hn hx1).nkey
              refine ⟨nk, ?_, hk _ ?_⟩
              · have := ih.len
                rw [List.length_take] at this
                exact Nat.lt_of_lt_of_le (show ps.length < 401 by omega) (small_line (by decide))
              · rw [take_snoc hx]
                exact ih.snoc (f := id) nk
            · rw [List.take_length] at ih
              have hvis : ∀ v ∈ vs, IsVis n v := fun v hv => vis_form (List.all_eq_true.mp hall v hv)
              refine ⟨by decide, n, vs, rfl, by omega, fun e => by rw [e] at c1; simp at c1, by omega, hvis, ?_⟩
              refine lcW_map (fun l => .bool (zs.any fun z => PyData.eqv z l)) (fun l hl yes hy => ?_) (small_line (by have := hops_len vs; omega)) ?_
              · walk_at "dw"
                obtain ⟨b, c, r, rfl⟩ := hop_mem hvis hl
                refine ⟨ps, rfl, lk_nkey b c r, ?_⟩
                rw [any_same (lk_nkey b c r) ih.key (fun l hl => (every_is hn (hzs l hl)).nkey.keyed) (fun e => by rw [ih.mem, List.map_id])]
                exact hy
              · have em2 : (hopsD vs).map (fun l => PyData.bool (zs.any fun z => PyData.eqv z l)) = ((hopsD vs).map fun l => zs.any fun z => PyData.eqv z l).map .bool := by rw [List.map_map]; rfl
                rw [em2]
                simp only [asBs_bools, List.all_map, Function.comp_def, id]
                exact hw
    · have e4 : (decide (3 ≤ vs.length) && decide (vs.length ≤ 1000)) = false := by
        rw [Bool.and_eq_false_iff, decide_eq_false_iff_not, decide_eq_false_iff_not]
        omega
      rw [e4, Bool.false_and, Bool.false_and] at hw
      by_cases c2 : 3 ≤ vs.length
      · simp only [show (3 : Int) ≤ (vs.length : Nat) by omega, show ¬ ((vs.length : Nat) : Int) ≤ 1000 by omega, decide_true, decide_false, if_true, Bool.not_false]
        exact hw
      · simp only [show ¬ (3 : Int) ≤ (vs.length : Nat) by omega, decide_false, Bool.false_eq_true, if_false, Bool.not_false, if_true]
        exact hw
  | _ =>
    walk_at "dx"
    exact hw

end
end DL
namespace DL
open PySem PySem.Spec PyProof.Rows L2
local macro_rules | `(tactic| walk_at "dw") => `(tactic| simp only [wSeq, wIfS, wB, wOp, fCmp, wPen, wVar, wPenSet, wArg, wNil, wCons, wCall, f1, f2, wSet, wRet, wRetN, wNx, wAnd, wOr, wUn, wIf, wTru, wNotT, wAndT, wOrT, wC, wData, wTup, wLst, wLc, wIS, wIL, wIT, wFor, wSl, wPar, wAsg, wgName, wgTup, wgNil, wgCons, wOwn, wApp, wExt, wFrz, frz, wDrop, wYes, wLc2, wDc, wSortSet, wLenSet, wLenSetT, wSortSetN, wParO, wLenL, wDget, wZip, wZip3, wParF, wTriD, wOwnD, wFrzD, DL.frzD, wLenO, wIxO, wChain, wDef, wNever, fLen, allD, Option.map_some, wipeD,
    List.map_cons, List.map_nil, List.cons_append, List.nil_append, List.append_nil, List.replicate_succ, List.replicate_zero, List.getElem?_cons_zero, List.getElem?_cons_succ, List.set_cons_zero, List.set_cons_succ, List.length_cons, List.length_nil, Nat.reduceAdd, Nat.reduceSub, List.getElem?_nil, Int.reduceEq, if_true, if_false, reduceIte, fI_int, fAdd_int, fAdd_str, fAdd_list, fAdd_tuple, asI_int, asB_bool, fSl_list, fSl_tuple, fEq_str, fNe_str, fNe_list, fEq_list, fEq_int, fEq_unit, fNe_int, shaped_int, Bool.false_eq_true, true_or, or_true, true_and, and_true, false_or, or_false])
local macro_rules | `(tactic| walk_at "dx") => `(tactic| simp only [wSeq, wIfS, wB, wOp, fCmp, wPen, wVar, wPenSet, wArg, wNil, wCons, wCall, f1, f2, wSet, wRet, wRetN, wNx, wAnd, wOr, wUn, wIf, wTru, wNotT, wAndT, wOrT, wC, wData, wTup, wLst, wLc, wIS, wIL, wIT, wFor, wSl, wPar, wAsg, wgName, wgTup, wgNil, wgCons, wOwn, wApp, wExt, wFrz, frz, wDrop, wYes, wLc2, wDc, wSortSet, wLenSet, wLenSetT, wSortSetN, wParO, wLenL, wDget, wZip, wZip3, wParF, wTriD, wOwnD, wFrzD, DL.frzD, wLenO, wIxO, wChain, wDef, wNever, fLen, allD, Option.map_some, wipeD,
    List.map_cons, List.map_nil, List.cons_append, List.nil_append, List.append_nil, List.replicate_succ, List.replicate_zero, List.getElem?_cons_zero, List.getElem?_cons_succ, List.set_cons_zero, List.set_cons_succ, List.length_cons, List.length_nil, Nat.reduceAdd, Nat.reduceSub, List.getElem?_nil, Int.reduceEq, if_true, if_false, reduceIte, fI_int, fAdd_int, fAdd_str, fAdd_list, fAdd_tuple, asI_int, asB_bool, fSl_list, fSl_tuple, fEq_str, fNe_str, fNe_list, fEq_list, fEq_int, fEq_unit, fNe_int, shaped_int, Bool.false_eq_true, true_or, or_true, true_and, and_true, false_or, or_false, fIsi_intE, fIsi_boolE, fIsi_tupleE, isIntB, isBoolB, isTupB, truD, Bool.not_false, Bool.not_true])
section
variable {P : Program} {w : World} {K : PySem.W.Frag} {mg : Str → Option Value} {base : Heap}
def vis (a b : Int) (ns : List Int) : PyData := .tuple (.int a :: .int b :: ns.map .int)
theorem fEq_row {ns ms : List Int} {Φ : PyData → Prop} (h : Φ (.bool (decide (ns = ms)))) : fEq (.tuple (ns.map .int)) (.tuple (ms.map .int)) Φ := by
  cases ms with
  | nil =>
    show Φ (.bool (ns.map PyData.int).isEmpty)
    cases ns with
    | nil => exact h
    | cons n ns => exact h
  | cons m ms =>
    refine ⟨shaped_ints_t ns, shaped_ints_t (m :: ms), ?_⟩
    rw [show PyData.eqv (.tuple (ns.map .int)) (.tuple ((m :: ms).map .int)) = _ from eqv_ints_t ns (m :: ms)]
    exact h
theorem row_drop2 (a b : Int) (ns : List Int) : cutD (PyData.int a :: .int b :: ns.map .int) (some 2) none = ns.map .int := drop2 _ _ _

abbrev s_comes_back : Stmt := topS 13
theorem sc_comes_back : FnScope ["journey", "first", "last"] ["journey"] (defScope s_comes_back) := ⟨rfl, rfl, rfl, by decide +kernel, rfl, by decide +kernel, by decide +kernel⟩
def w_comes_back : WFn := f1 fun d Φ => ∃ (us : List PyData) (a b c e : Int) (ns ms : List Int), d = .tuple (us ++ [vis c e ms]) ∧ (us ++ [vis c e ms])[0]? = some (vis a b ns) ∧ Φ (.bool (decide (ns = ms) && decide (b ≤ c)))
theorem ok_comes_back (B : Blt mg) (hs : ∃ o, base.get? sysModules = some o)   (F : HasDef K mg "comes_back" s_comes_back ["journey"]) : DefD P w K mg base 1 "comes_back" 1 w_comes_back := by
  refine F.ok (k := 0) sc_comes_back fun f cdv A outer s H E hr gd => ⟨_, _, (dss_cons (ds_par (i := 1) (j := 2) rfl sc_comes_back.nd rfl rfl (by decide) rfl rfl (da_cons (de_ix (dv 0) de_int) (da_cons (de_ix (dv 0) (de_neg de_int)) da_nil)) (by rfl))
      (dss_one (ds_ret (de_and (de_eq hr.units (de_sl (dv 1) (do_some de_int) do_none) (de_sl (dv 2) (do_some de_int) do_none)) (de_one (de_le (de_ix (dv 1) de_int) (de_ix (dv 2) de_int))))))), ?_⟩
  intro svs Φ hl hw
  replace hw := f1_out hw
  obtain ⟨d, rfl, us, a, b, c, e, ns, ms, rfl, h0, hw⟩ := hw
  walk_at "dw"
  have i0 : ∀ Φ : PyData → Prop, fIx (.tuple (us ++ [vis c e ms])) (.int 0) Φ = Φ (vis a b ns) := fun Φ => by
    rw [show (0 : Int) = ((0 : Nat) : Int) from rfl, ix_at h0]
  have i1 : ∀ Φ : PyData → Prop, fIx (.tuple (us ++ [vis c e ms])) (.int (-1)) Φ = Φ (vis c e ms) := fun Φ => ix_last
  simp only [i0, i1]
  unfold vis
  walk_at "dw"
  rw [row_drop2, row_drop2]
  refine fEq_row ?_
  rw [asB_bool]
  split
  · rename_i k
    rw [k, Bool.true_and] at hw
    rw [ix_1, ix_0]
    exact ⟨trivial, hw⟩
  · rename_i k
    rw [Bool.eq_false_iff.mpr k, Bool.false_and] at hw
    exact hw

abbrev s__law_comes_back : Stmt := topS 37
theorem sc__law_comes_back : FnScope ["visits"] ["visits"] (defScope s__law_comes_back) := ⟨rfl, rfl, rfl, by decide +kernel, rfl, by decide +kernel, by decide +kernel⟩
def w__law_comes_back : WFn := f1 fun d Φ => ∃ (us : List PyData) (a b c e : Int) (ns ms : List Int), d = .tuple (us ++ [vis c e ms]) ∧ (us ++ [vis c e ms])[0]? = some (vis a b ns) ∧ Φ (.bool (decide (ns = ms) && decide (b ≤ c)))
theorem ok__law_comes_back (B : Blt mg) (hs : ∃ o, base.get? sysModules = some o)   (F : HasDef K mg "_law_comes_back" s__law_comes_back ["visits"]) : DefD P w K mg base 1 "_law_comes_back" 1 w__law_comes_back := by
  refine F.ok (k := 0) sc__law_comes_back fun f cdv A outer s H E hr gd => ⟨_, _, (dss_one (ds_ret (de_and (de_eq hr.units (de_sl (de_ix (dv 0) (de_neg de_int)) (do_some de_int) do_none) (de_sl (de_ix (dv 0) de_int) (do_some de_int) do_none)) (de_one (de_ge (de_ix (de_ix (dv 0) (de_neg de_int)) de_int) (de_ix (de_ix (dv 0) de_int) de_int)))))), ?_⟩
  intro svs Φ hl hw
  replace hw := f1_out hw
  obtain ⟨d, rfl, us, a, b, c, e, ns, ms, rfl, h0, hw⟩ := hw
  walk_at "dw"
  have i0 : ∀ Φ : PyData → Prop, fIx (.tuple (us ++ [vis c e ms])) (.int 0) Φ = Φ (vis a b ns) := fun Φ => by
    rw [show (0 : Int) = ((0 : Nat) : Int) from rfl, ix_at h0]
  have i1 : ∀ Φ : PyData → Prop, fIx (.tuple (us ++ [vis c e ms])) (.int (-1)) Φ = Φ (vis c e ms) := fun Φ => ix_last
  simp only [i0, i1]
  unfold vis
  walk_at "dw"
  rw [row_drop2, row_drop2]
  refine fEq_row ?_
  rw [asB_bool]
  have sw : decide (ms = ns) = decide (ns = ms) := by rw [decide_eq_decide]; exact eq_comm
  rw [sw]
  split
  · rename_i k
    rw [k, Bool.true_and] at hw
    rw [ix_0, ix_1]
    exact ⟨trivial, hw⟩
  · rename_i k
    rw [Bool.eq_false_iff.mpr k, Bool.false_and] at hw
    exact hw

abbrev s__law_are_visits : Stmt := topS 35
theorem sc__law_are_visits : FnScope ["many", "value", "visit"] ["many", "value"] (defScope s__law_are_visits) := ⟨rfl, rfl, rfl, by decide +kernel, rfl, by decide +kernel, by decide +kernel⟩
def areB (n : Nat) (v : PyData) : Bool := match v with
  | .tuple vs => (decide (3 ≤ vs.length) && decide (vs.length ≤ 1000)) && vs.all (visL n)
  | _ => false
def w__law_are_visits : WFn := f2 fun e v Φ => ∃ n : Nat, e = .int (n : Nat) ∧ 0 < n ∧ WidOk v ∧ Φ (.bool (areB n v))
theorem ok__law_are_visits (B : Blt mg) (hs : ∃ o, base.get? sysModules = some o) (D__law_is_visit : DefD P w K mg base 3 "_law_is_visit" 2 w__law_is_visit)  (F : HasDef K mg "_law_are_visits" s__law_are_visits ["many", "value"]) : DefD P w K mg base 4 "_law_are_visits" 2 w__law_are_visits := by
  refine F.ok (k := 3) sc__law_are_visits fun f cdv A outer s H E hr gd => ⟨_, _, (dss_cons (ds_if (DW.dt' (dw_or (dt_not (dt_tru (de_isi (T := "tuple") B.b_isinstance B.b_tuple (dv 1) (by decide +kernel)))) (dw_or1 (dt_not (dt_lele de_int (de_len B.b_len (da_cons (dv 1) da_nil)) de_int))))) (dss_one (ds_ret de_bl)) dss_nil)
      (dss_one (ds_ret (de_eq hr.units (DF.to (df_lc (own := [("visit", 2)]) rfl sc__law_are_visits.nd (di_seq (dv 1)) (blkOk_by (N := ["many", "value", "visit"]) (sc := (defScope s__law_are_visits)) (own := [("visit", 2)]) (by decide +kernel)) (by decide) (fun _ _ _ _ _ => (dg_name (i := 2) sc__law_are_visits.nd rfl (by first | exact Or.inl rfl | exact Or.inr rfl))) (fun _ _ _ _ _ => (dts_one (dt_not (dt_tru (D__law_is_visit.call hr (by decide) gd (da_cons (dv 0) (da_cons (dv 2) da_nil))))))) (fun _ _ _ _ _ => de_int))) (DF.to (df_lst da_nil)))))), ?_⟩
  intro svs Φ hl hw
  replace hw := f2_out hw
  obtain ⟨e, v, rfl, n, rfl, hn, hv, hw⟩ := hw
  cases v with
  | tuple vs =>
    obtain ⟨hv1, hv2⟩ := hv vs rfl
    walk_at "dx"
    have e3 : areB n (.tuple vs) = ((decide (3 ≤ vs.length) && decide (vs.length ≤ 1000)) && vs.all (visL n)) := rfl
    rw [e3] at hw
    by_cases c1 : 3 ≤ vs.length ∧ vs.length ≤ 1000
    · simp only [c1.1, c1.2, decide_true, Bool.true_and] at hw
      simp only [show (3 : Int) ≤ (vs.length : Nat) by omega, show ((vs.length : Nat) : Int) ≤ 1000 by omega, decide_true, if_true, Bool.not_true, Bool.false_eq_true, if_false]
      refine lcW_filterMap (fun x => !visL n x) (fun _ => .int 1) vs [] (fun x hx yes no hy hn2 => ?_) (small_line (by rw [List.length_nil]; omega)) ?_
      · walk_at "dw"
        refine ⟨((n : Nat) : Int), rfl, by omega, Nat.le_trans (hv2 x hx) (by decide), ?_⟩
        show (if (!visL n x) = true then yes (.int 1) else no)
        split
        · rename_i z; exact hy z
        · rename_i z; exact hn2 (Bool.eq_false_iff.mpr z)
      · rw [List.nil_append]
        have e1 : (vs.filter fun x => !visL n x).map (fun _ => PyData.int 1) = ((vs.filter fun x => !visL n x).map fun _ => (1 : Int)).map PyData.int := by rw [List.map_map]; rfl
        rw [e1]
        refine ⟨Nat.zero_le _, shaped_ints_l _, shaped_nil_l, ?_⟩
        rw [show PyData.eqv (.list _) (.list []) = _ from eqv_ints_l _ []]
        have e2 : decide ((vs.filter fun x => !visL n x).map (fun _ => (1 : Int)) = []) = vs.all (visL n) := by
          rw [Bool.eq_iff_iff, decide_eq_true_eq, List.map_eq_nil_iff, List.filter_eq_nil_iff, List.all_eq_true]
          exact ⟨fun h a ha => by simpa using h a ha, fun h a ha => by simpa using h a ha⟩
        rw [e2]
        exact hw
    · have e4 : (decide (3 ≤ vs.length) && decide (vs.length ≤ 1000)) = false := by
        rw [Bool.and_eq_false_iff, decide_eq_false_iff_not, decide_eq_false_iff_not]
        omega
      rw [e4, Bool.false_and] at hw
      by_cases c2 : 3 ≤ vs.length
      · simp only [show (3 : Int) ≤ (vs.length : Nat) by omega, show ¬ ((vs.length : Nat) : Int) ≤ 1000 by omega, decide_true, decide_false, if_true, Bool.not_false]
        exact hw
      · simp only [show ¬ (3 : Int) ≤ (vs.length : Nat) by omega, decide_false, Bool.false_eq_true, if_false, Bool.not_false, if_true]
        exact hw
  | _ =>
    walk_at "dx"
    exact hw

abbrev s__law_visit_not : Stmt := topS 36
theorem sc__law_visit_not : FnScope ["table", "visits", "pairs", "one", "two", "at", "look"] ["table", "visits"] (defScope s__law_visit_not) := ⟨rfl, rfl, rfl, by decide +kernel, rfl, by decide +kernel, by decide +kernel⟩
theorem enum_at {ds : List PyData} {i : Nat} {x : PyData} (h : (enumD ds)[i]? = some x) : ∃ l, ds[i]? = some l ∧ x = .tuple [.int (i : Nat), l] := by
  unfold enumD at h
  rw [List.getElem?_map, List.getElem?_zipIdx] at h
  cases e : ds[i]? with
  | none => rw [e] at h; simp at h
  | some l =>
    rw [e] at h
    simp at h
    exact ⟨l, rfl, h.symm⟩
theorem enum_len (ds : List PyData) : (enumD ds).length = ds.length := by unfold enumD; rw [List.length_map, List.length_zipIdx]
def w__law_visit_not : WFn := f2 fun t d Φ => ∃ (zs : List PyData) (n : Nat) (vs : List PyData), t = .tuple zs ∧ (n = 1 ∨ n = 2) ∧ (∀ z ∈ zs, z ∈ everyL n) ∧ d = .tuple vs ∧ vs ≠ [] ∧ vs.length ≤ 2000 ∧ (∀ v ∈ vs, IsVis n v) ∧
  ∀ js : List Int, (js = [] ↔ ((hopsD vs).all fun l => zs.any fun z => PyData.eqv z l) = true) → Φ (.list (js.map .int))
theorem ok__law_visit_not (B : Blt mg) (hs : ∃ o, base.get? sysModules = some o) (D__law_ranks : DefD P w K mg base 1 "_law_ranks" 1 w__law_ranks)  (F : HasDef K mg "_law_visit_not" s__law_visit_not ["table", "visits"]) : DefD P w K mg base 3 "_law_visit_not" 2 w__law_visit_not := by
  refine F.ok (k := 2) sc__law_visit_not fun f cdv A outer s H E hr gd => ⟨_, _, (dss_cons (ds_setLc (i := 2) (own := [("one", 3), ("two", 4)]) rfl sc__law_visit_not.nd rfl rfl (sw_true rfl rfl rfl (by decide +kernel)) (di_zip B.b_zip (da_cons (dv 1) (da_cons (de_sl (dv 1) (do_some de_int) do_none) da_nil))) (blkOk_by (N := ["table", "visits", "pairs", "one", "two", "at", "look"]) (sc := (defScope s__law_visit_not)) (own := [("one", 3), ("two", 4)]) (by decide +kernel)) (by decide) (fun _ _ _ _ _ => (dg_tup (n := 2) rfl (dgs_cons (dg_name (i := 3) sc__law_visit_not.nd rfl (by first | exact Or.inl rfl | exact Or.inr rfl)) (dgs_cons (dg_name (i := 4) sc__law_visit_not.nd rfl (by first | exact Or.inl rfl | exact Or.inr rfl)) dgs_nil)))) (fun _ _ _ _ _ => dts_nil) (fun _ _ _ _ _ => (de_tup (da_cons (de_ix (dv 3) de_int) (da_cons (de_ix (dv 4) de_int) (da_cons (D__law_ranks.call hr (by decide) gd (da_cons (de_add (de_sl (dv 3) (do_some de_int) do_none) (de_sl (dv 4) (do_some de_int) do_none)) da_nil)) da_nil))))))
      (dss_one (ds_ret (de_sl (DF.to (df_lc (own := [("at", 5), ("look", 6)]) rfl sc__law_visit_not.nd (di_enum rfl B.b_enumerate (da_cons (dv 2) da_nil)) (blkOk_by (N := ["table", "visits", "pairs", "one", "two", "at", "look"]) (sc := (defScope s__law_visit_not)) (own := [("at", 5), ("look", 6)]) (by decide +kernel)) (by decide) (fun _ _ _ _ _ => (dg_tup (n := 2) rfl (dgs_cons (dg_name (i := 5) sc__law_visit_not.nd rfl (by first | exact Or.inl rfl | exact Or.inr rfl)) (dgs_cons (dg_name (i := 6) sc__law_visit_not.nd rfl (by first | exact Or.inl rfl | exact Or.inr rfl)) dgs_nil)))) (fun _ _ _ _ _ => (dts_one (dt_notIn hr.units (dv 6) (dv 0)))) (fun _ _ _ _ _ => (dv 5)))) do_none (do_some de_int))))), ?_⟩
  intro svs Φ hl hw
  replace hw := f2_out hw
  obtain ⟨t, d, rfl, zs, n, vs, rfl, hn, hzs, rfl, hne, hz, hv, hw⟩ := hw
  walk_at "dw"
  rw [drop1 vs hne]
  refine lcW_map hopP (fun x hx yes hy => ?_) (small_line (by rw [zip_len]; omega)) ?_
  · obtain ⟨i, hi⟩ := List.mem_iff_getElem?.mp hx
    obtain ⟨x, y, hx2, hy2, rfl⟩ := zip_at hi
    obtain ⟨a, b, ns, rfl, l1⟩ := hv x (List.mem_of_getElem? hx2)
    obtain ⟨c, d, ms, rfl, l2⟩ := hv y (List.mem_of_mem_drop (List.mem_of_getElem? hy2))
    have e0 : hopP (.tuple [.tuple (.int a :: .int b :: ns.map .int), .tuple (.int c :: .int d :: ms.map .int)]) = lk b c (ranks (ns ++ ms)) := hop_at a b c d ns ms
    rw [e0] at hy
    walk_at "dw"
    rw [ix_1, ix_0, drop2, drop2, ← List.map_append]
    refine ⟨small_line (by simp; omega), ns ++ ms, .inr rfl, by rw [List.length_append]; omega, small_line (by decide), hy⟩
  · rw [show (zipD vs (vs.drop 1)).map hopP = hopsD vs from rfl]
    have hl2 := hops_len vs
    refine lcW_ind (fun i acc => ∃ js : List Int, acc = js.map .int ∧ js.length ≤ i ∧ (js = [] ↔ (((hopsD vs).take i).all fun l => zs.any fun z => PyData.eqv z l) = true)) ⟨[], rfl, Nat.le_refl _, by simp⟩ (fun i x acc k hx ih hk => ?_) (fun acc ih => ?_)
    · obtain ⟨l, hl3, rfl⟩ := enum_at hx
      obtain ⟨js, rfl, hj1, hj2⟩ := ih
      obtain ⟨b, c, r, rfl⟩ := hop_mem hv (List.mem_of_getElem? hl3)
      have hi := (List.getElem?_eq_some_iff.mp hl3).1
      walk_at "dw"
      refine ⟨zs, .inr rfl, lk_lay b c r, layAll fun d hd => by obtain ⟨s, t, r, rfl, _⟩ := every_is hn (hzs d hd); exact lk_lay s t r, by rw [lk_depth]; decide, ?_⟩
      show (if (!(zs.any fun z => PyData.eqv z (lk b c r))) = true then _ else k (js.map .int))
      cases e : zs.any fun z => PyData.eqv z (lk b c r) with
      | true =>
        refine hk _ ⟨js, rfl, by omega, ?_⟩
        rw [take_snoc hl3, List.all_append, hj2]
        simp [e]
      | false =>
        refine ⟨Nat.lt_of_le_of_lt (by rw [List.length_map]; exact hj1) (Nat.lt_of_lt_of_le (show i < 2001 by omega) (small_line (by decide))), hk _ ⟨js ++ [((i : Nat) : Int)], by rw [List.map_append]; rfl, by rw [List.length_append]; exact Nat.succ_le_succ hj1, ?_⟩⟩
        rw [take_snoc hl3, List.all_append]
        simp [e]
    · obtain ⟨js, rfl, hj1, hj2⟩ := ih
      rw [enum_len, List.take_length] at hj2
      have e1 : cutD (js.map PyData.int) none (some 1) = (js.take 1).map .int := by
        cases js with
        | nil => rfl
        | cons j js => rw [show (1 : Int) = ((1 : Nat) : Int) from rfl, cut_to _ _ (by simp), List.map_take]
      rw [e1]
      refine hw _ (Iff.trans ?_ hj2)
      cases js <;> simp

end
end DL
namespace DL
open PySem PySem.Spec PyProof.Rows L2
local macro_rules | `(tactic| walk_at "dw") => `(tactic| simp only [wSeq, wIfS, wB, wOp, fCmp, wPen, wVar, wPenSet, wArg, wNil, wCons, wCall, f1, f2, wSet, wRet, wRetN, wNx, wAnd, wOr, wUn, wIf, wTru, wNotT, wAndT, wOrT, wC, wData, wTup, wLst, wLc, wIS, wIL, wIT, wFor, wSl, wPar, wAsg, wgName, wgTup, wgNil, wgCons, wOwn, wApp, wExt, wFrz, frz, wDrop, wYes, wLc2, wDc, wSortSet, wLenSet, wLenSetT, wSortSetN, wParO, wLenL, wDget, wZip, wZip3, wParF, wTriD, wOwnD, wFrzD, DL.frzD, wLenO, wIxO, wChain, wDef, wNever, fLen, allD, Option.map_some, wipeD,
    List.map_cons, List.map_nil, List.cons_append, List.nil_append, List.append_nil, List.replicate_succ, List.replicate_zero, List.getElem?_cons_zero, List.getElem?_cons_succ, List.set_cons_zero, List.set_cons_succ, List.length_cons, List.length_nil, Nat.reduceAdd, Nat.reduceSub, List.getElem?_nil, Int.reduceEq, if_true, if_false, reduceIte, fI_int, fAdd_int, fAdd_str, fAdd_list, fAdd_tuple, asI_int, asB_bool, fSl_list, fSl_tuple, fEq_str, fNe_str, fNe_list, fEq_list, fEq_int, fEq_unit, fNe_int, shaped_int, Bool.false_eq_true, true_or, or_true, true_and, and_true, false_or, or_false])
local macro_rules | `(tactic| walk_at "dx") => `(tactic| simp only [wSeq, wIfS, wB, wOp, fCmp, wPen, wVar, wPenSet, wArg, wNil, wCons, wCall, f1, f2, wSet, wRet, wRetN, wNx, wAnd, wOr, wUn, wIf, wTru, wNotT, wAndT, wOrT, wC, wData, wTup, wLst, wLc, wIS, wIL, wIT, wFor, wSl, wPar, wAsg, wgName, wgTup, wgNil, wgCons, wOwn, wApp, wExt, wFrz, frz, wDrop, wYes, wLc2, wDc, wSortSet, wLenSet, wLenSetT, wSortSetN, wParO, wLenL, wDget, wZip, wZip3, wParF, wTriD, wOwnD, wFrzD, DL.frzD, wLenO, wIxO, wChain, wDef, wNever, fLen, allD, Option.map_some, wipeD,
    List.map_cons, List.map_nil, List.cons_append, List.nil_append, List.append_nil, List.replicate_succ, List.replicate_zero, List.getElem?_cons_zero, List.getElem?_cons_succ, List.set_cons_zero, List.set_cons_succ, List.length_cons, List.length_nil, Nat.reduceAdd, Nat.reduceSub, List.getElem?_nil, Int.reduceEq, if_true, if_false, reduceIte, fI_int, fAdd_int, fAdd_str, fAdd_list, fAdd_tuple, asI_int, asB_bool, fSl_list, fSl_tuple, fEq_str, fNe_str, fNe_list, fEq_list, fEq_int, fEq_unit, fNe_int, shaped_int, Bool.false_eq_true, true_or, or_true, true_and, and_true, false_or, or_false, fIsi_intE, fIsi_boolE, fIsi_tupleE, isIntB, isBoolB, isTupB, truD, Bool.not_false, Bool.not_true])
section
variable {P : Program} {w : World} {K : PySem.W.Frag} {mg : Str → Option Value} {base : Heap}
theorem whole_stand (d : PyData) : wholeB d 0 1 = standB d := by
  cases d with
  | int i =>
    unfold wholeB standB
    rw [Bool.eq_iff_iff]
    simp only [Bool.and_eq_true, Bool.or_eq_true, decide_eq_true_eq]
    omega
  | _ => rfl
theorem whole_pos {x : PyData} (h : fine 190 x = true) : wholeB x 1 big60 = posB x := by
  cases x with
  | int i =>
    unfold fine at h
    rw [decide_eq_true_eq] at h
    have h2 : (2 : Nat) ^ 190 < 10 ^ 60 := by decide
    have h3 : ((i.natAbs : Nat) : Int) < ((10 ^ 60 : Nat) : Int) := by exact_mod_cast Nat.lt_trans h h2
    have h4 : big60 = ((10 ^ 60 : Nat) : Int) := by decide
    show (decide (1 ≤ i) && decide (i ≤ big60)) = decide (1 ≤ i)
    rw [h4, decide_eq_true (show i ≤ ((10 ^ 60 : Nat) : Int) by omega), Bool.and_true]
  | _ => rfl
theorem all_pos : ∀ {ds : List PyData}, (∀ x ∈ ds, fine 190 x = true) → (ds.all fun x => wholeB x 1 big60) = ds.all posB
  | [], _ => rfl
  | d :: ds, h => by
    rw [List.all_cons, List.all_cons, whole_pos (h d List.mem_cons_self), all_pos fun x hx => h x (List.mem_cons_of_mem _ hx)]
theorem visL_eq {n : Int} {v : PyData} (h : fine 190 v = true) : visL n v = visB n v := by
  match v, h with
  | .tuple [], _ => rfl
  | .tuple [_], _ => rfl
  | .tuple (a :: b :: ds), h =>
    unfold fine at h
    have hf := fineAll_iff.mp h
    have e1 : (ds.all fun x => wholeB x 1 big60) = ds.all posB := all_pos fun x hx => hf x (List.mem_cons_of_mem _ (List.mem_cons_of_mem _ hx))
    show (decide (((ds.length : Nat) : Int) = n) && (wholeB a 0 1 && secB a b && (wholeB b 0 1 && ds.all fun x => wholeB x 1 big60))) = (decide (((ds.length : Nat) : Int) = n) && (standB a && (standB b && ds.all posB) && leqB a b))
    rw [e1, whole_stand, whole_stand]
    congr 1
    cases ha : standB a with
    | false => rfl
    | true =>
      obtain ⟨i, rfl, hi⟩ := stand_int ha
      cases hb : standB b with
      | false => simp
      | true =>
        obtain ⟨j, rfl, hj⟩ := stand_int hb
        have e2 : wholeB (.int j) i 1 = leqB (.int i) (.int j) := by
          show (decide (i ≤ j) && decide (j ≤ 1)) = decide (i ≤ j)
          rw [decide_eq_true (show j ≤ 1 by omega), Bool.and_true]
        show (true && wholeB (.int j) i 1 && (true && ds.all posB)) = (true && (true && ds.all posB) && leqB (.int i) (.int j))
        rw [e2]
        cases leqB (.int i) (.int j) <;> cases ds.all posB <;> rfl
  | .none, _ => rfl
  | .bool _, _ => rfl
  | .int _, _ => rfl
  | .str _, _ => rfl
  | .list _, _ => rfl
  | .dict _, _ => rfl
theorem all_vis {n : Int} {vs : List PyData} (h : ∀ x ∈ vs, fine 190 x = true) : vs.all (visL n) = vs.all (visB n) := by
  induction vs with
  | nil => rfl
  | cons v vs ih => rw [List.all_cons, List.all_cons, visL_eq (h v List.mem_cons_self), ih fun x hx => h x (List.mem_cons_of_mem _ hx)]
theorem jB_due (zs : List PyData) {n : Nat} {vs : List PyData} (h : ∀ x ∈ vs, fine 190 x = true) : jB zs n (.tuple vs) = (!zs.isEmpty && (areB n (.tuple vs) && (hopsD vs).all fun l => zs.any fun z => PyData.eqv z l)) := by
  show ((decide (3 ≤ vs.length) && decide (vs.length ≤ 1000)) && (!zs.isEmpty && vs.all (visB n)) && (hopsD vs).all fun l => zs.any fun z => PyData.eqv z l) = (!zs.isEmpty && (((decide (3 ≤ vs.length) && decide (vs.length ≤ 1000)) && vs.all (visL n)) && (hopsD vs).all fun l => zs.any fun z => PyData.eqv z l))
  rw [all_vis h]
  generalize (decide (3 ≤ vs.length) && decide (vs.length ≤ 1000)) = r
  generalize ((hopsD vs).all fun l => zs.any fun z => PyData.eqv z l) = q
  cases r <;> cases zs.isEmpty <;> cases vs.all (visB n) <;> cases q <;> rfl
/-- values whose texts are told -/
def JOk (v : PyData) : Prop := ReprOk v ∧ WidOk v ∧ fine 190 v = true

abbrev s__law_due : Stmt := topS 39
theorem sc__law_due : FnScope ["table", "many", "value"] ["table", "many", "value"] (defScope s__law_due) := ⟨rfl, rfl, rfl, by decide +kernel, rfl, by decide +kernel, by decide +kernel⟩
def w__law_due : WFn := fun svs Φ => match svs with
  | [.d (.tuple zs), .d (.int m), .d v] => ∃ n : Nat, m = (n : Nat) ∧ (n = 1 ∨ n = 2) ∧ (∀ z ∈ zs, z ∈ everyL n) ∧ zs.length ≤ 400 ∧ WidOk v ∧ fine 190 v = true ∧ Φ (.bool (jB zs n v))
  | _ => False
theorem ok__law_due (B : Blt mg) (hs : ∃ o, base.get? sysModules = some o) (D__law_visit_not : DefD P w K mg base 3 "_law_visit_not" 2 w__law_visit_not) (D__law_are_visits : DefD P w K mg base 4 "_law_are_visits" 2 w__law_are_visits)  (F : HasDef K mg "_law_due" s__law_due ["table", "many", "value"]) : DefD P w K mg base 5 "_law_due" 3 w__law_due := by
  refine F.ok (k := 4) sc__law_due fun f cdv A outer s H E hr gd => ⟨_, _, (dss_one (ds_ret (de_and (de_ne hr.units (dv 0) (de_tup da_nil)) (de_and (D__law_are_visits.call hr (by decide) gd (da_cons (dv 1) (da_cons (dv 2) da_nil))) (de_one (de_eq hr.units (D__law_visit_not.call hr (by decide) gd (da_cons (dv 0) (da_cons (dv 2) da_nil))) (DF.to (df_lst da_nil)))))))), ?_⟩
  intro svs Φ hl hw
  unfold w__law_due at hw
  split at hw
  · rename_i zs m v
    obtain ⟨n, rfl, hn, hzs, hz, hv, hf, hw⟩ := hw
    walk_at "dw"
    refine ⟨Nat.zero_le _, shaped_tab hn hzs, shaped_nil_t, ?_⟩
    rw [eqv_nilT]
    show (if (!zs.isEmpty) = true then _ else Φ (.bool false))
    cases v with
    | tuple vs =>
      have hf2 : ∀ x ∈ vs, fine 190 x = true := fineAll_iff.mp (by unfold fine at hf; exact hf)
      rw [jB_due zs hf2] at hw
      split
      · rename_i k
        rw [k, Bool.true_and] at hw
        refine ⟨n, rfl, by omega, hv, ?_⟩
        show (if areB n (.tuple vs) = true then _ else Φ (.bool false))
        split
        · rename_i k2
          rw [k2, Bool.true_and] at hw
          have k3 : (decide (3 ≤ vs.length) && decide (vs.length ≤ 1000) && vs.all (visL n)) = true := k2
          simp only [Bool.and_eq_true, decide_eq_true_eq] at k3
          have hvis : ∀ v ∈ vs, IsVis n v := fun v hv => vis_form (by rw [← visL_eq (hf2 v hv)]; exact List.all_eq_true.mp k3.2 v hv)
          refine ⟨zs, n, vs, rfl, hn, hzs, rfl, fun e => by rw [e] at k3; simp at k3, by omega, hvis, fun js hjs => ?_⟩
          refine ⟨Nat.zero_le _, shaped_ints_l _, shaped_nil_l, ?_⟩
          rw [show PyData.eqv (.list (js.map .int)) (.list []) = _ from eqv_ints_l js []]
          have e5 : decide (js = []) = (hopsD vs).all fun l => zs.any fun z => PyData.eqv z l := by
            rw [Bool.eq_iff_iff, decide_eq_true_eq]
            exact hjs
          rw [e5]
          exact hw
        · rename_i k2
          rw [Bool.eq_false_iff.mpr k2, Bool.false_and] at hw
          exact hw
      · rename_i k
        rw [Bool.eq_false_iff.mpr k, Bool.false_and] at hw
        exact hw
    | _ =>
      replace hw : Φ (.bool false) := hw
      split
      · refine ⟨n, rfl, by omega, hv, ?_⟩
        exact hw
      · exact hw
  · exact hw.elim

abbrev s__law_all_judged : Stmt := topS 41
theorem sc__law_all_judged : FnScope ["table", "many", "values", "value", "before"] ["table", "many", "values"] (defScope s__law_all_judged) := ⟨rfl, rfl, rfl, by decide +kernel, rfl, by decide +kernel, by decide +kernel⟩
def w__law_all_judged : WFn := fun svs Φ => match svs with
  | [.d (.tuple zs), .d (.int m), .d (.list vs)] => ∃ n : Nat, m = (n : Nat) ∧ (n = 1 ∨ n = 2) ∧ (∀ z ∈ zs, z ∈ everyL n) ∧ zs.length ≤ 400 ∧ (∀ v ∈ vs, JOk v) ∧ Φ (.bool true)
  | _ => False
theorem ok__law_all_judged (B : Blt mg) (hs : ∃ o, base.get? sysModules = some o) (D_is_journey : DefD P w K mg base 5 "is_journey" 2 w_is_journey) (D__law_due : DefD P w K mg base 5 "_law_due" 3 w__law_due)  (F : HasDef K mg "_law_all_judged" s__law_all_judged ["table", "many", "values"]) : DefD P w K mg base 6 "_law_all_judged" 3 w__law_all_judged := by
  refine F.ok (k := 5) sc__law_all_judged fun f cdv A outer s H E hr gd => ⟨_, _, (dss_cons (ds_for PassesOwn.never rfl (di_seq (dv 2)) (dg_name (i := 3) sc__law_all_judged.nd rfl (by first | exact Or.inl rfl | exact Or.inr rfl)) (dss_cons (ds_set (i := 4) sc__law_all_judged.nd rfl (by first | exact Or.inl rfl | exact Or.inr rfl) (de_repr gd hr.units hs B.b_repr (da_cons (dv 3) da_nil)))
      (dss_one (ds_if (DW.dt' (dw_or (dt_ne hr.units (de_repr gd hr.units hs B.b_repr (da_cons (D_is_journey.call hr (by decide) gd (da_cons (dv 0) (da_cons (dv 3) da_nil))) da_nil)) (de_repr gd hr.units hs B.b_repr (da_cons (D__law_due.call hr (by decide) gd (da_cons (dv 0) (da_cons (dv 1) (da_cons (dv 3) da_nil)))) da_nil))) (dw_or1 (dt_ne hr.units (de_repr gd hr.units hs B.b_repr (da_cons (dv 3) da_nil)) (dv 4))))) (dss_one (ds_ret de_bl)) dss_nil))))
      (dss_one (ds_ret de_bl))), ?_⟩
  intro svs Φ hl hw
  unfold w__law_all_judged at hw
  split at hw
  · rename_i zs m vs
    obtain ⟨n, rfl, hn, hzs, hz, hv, hw⟩ := hw
    walk_at "dw"
    refine forW_ind (fun i δ => ∃ a b, δ = [.d (.tuple zs), .d (.int (n : Nat)), .d (.list vs), a, b]) ⟨_, _, rfl⟩ ?_ ?_
    · rintro i x δ k hx ⟨a, b, rfl⟩ hk
      obtain ⟨h1, h2, h3⟩ := hv x (List.mem_of_getElem? hx)
      walk_at "dw"
      refine And.intro h1 ?_
      refine ⟨zs, n, rfl, hn, hzs, hz, h2, And.intro (repr_bool _) ?_⟩
      refine ⟨n, rfl, hn, hzs, hz, h2, h3, And.intro (repr_bool _) ?_⟩
      refine fNe_same _ ?_
      simp only [asB_bool, Bool.false_eq_true, if_false]
      refine And.intro h1 (fNe_same _ ?_)
      simp only [asB_bool, Bool.false_eq_true, if_false]
      exact hk _ ⟨_, _, rfl⟩
    · rintro δ ⟨a, b, rfl⟩
      walk_at "dw"
      exact hw
  · exact hw.elim

end
end DL
namespace DL
open PySem PySem.Spec PyProof.Rows L2
local macro_rules | `(tactic| walk_at "dw") => `(tactic| simp only [wSeq, wIfS, wB, wOp, fCmp, wPen, wVar, wPenSet, wArg, wNil, wCons, wCall, f1, f2, wSet, wRet, wRetN, wNx, wAnd, wOr, wUn, wIf, wTru, wNotT, wAndT, wOrT, wC, wData, wTup, wLst, wLc, wIS, wIL, wIT, wFor, wSl, wPar, wAsg, wgName, wgTup, wgNil, wgCons, wOwn, wApp, wExt, wFrz, frz, wDrop, wYes, wLc2, wDc, wSortSet, wLenSet, wLenSetT, wSortSetN, wParO, wLenL, wDget, wZip, wZip3, wParF, wTriD, wOwnD, wFrzD, DL.frzD, wLenO, wIxO, wChain, wDef, wNever, fLen, allD, Option.map_some, wipeD,
    List.map_cons, List.map_nil, List.cons_append, List.nil_append, List.append_nil, List.replicate_succ, List.replicate_zero, List.getElem?_cons_zero, List.getElem?_cons_succ, List.set_cons_zero, List.set_cons_succ, List.length_cons, List.length_nil, Nat.reduceAdd, Nat.reduceSub, List.getElem?_nil, Int.reduceEq, if_true, if_false, reduceIte, fI_int, fAdd_int, fAdd_str, fAdd_list, fAdd_tuple, asI_int, asB_bool, fSl_list, fSl_tuple, fEq_str, fNe_str, fNe_list, fEq_list, fEq_int, fEq_unit, fNe_int, shaped_int, Bool.false_eq_true, true_or, or_true, true_and, and_true, false_or, or_false])
local macro_rules | `(tactic| walk_at "dx") => `(tactic| simp only [wSeq, wIfS, wB, wOp, fCmp, wPen, wVar, wPenSet, wArg, wNil, wCons, wCall, f1, f2, wSet, wRet, wRetN, wNx, wAnd, wOr, wUn, wIf, wTru, wNotT, wAndT, wOrT, wC, wData, wTup, wLst, wLc, wIS, wIL, wIT, wFor, wSl, wPar, wAsg, wgName, wgTup, wgNil, wgCons, wOwn, wApp, wExt, wFrz, frz, wDrop, wYes, wLc2, wDc, wSortSet, wLenSet, wLenSetT, wSortSetN, wParO, wLenL, wDget, wZip, wZip3, wParF, wTriD, wOwnD, wFrzD, DL.frzD, wLenO, wIxO, wChain, wDef, wNever, fLen, allD, Option.map_some, wipeD,
    List.map_cons, List.map_nil, List.cons_append, List.nil_append, List.append_nil, List.replicate_succ, List.replicate_zero, List.getElem?_cons_zero, List.getElem?_cons_succ, List.set_cons_zero, List.set_cons_succ, List.length_cons, List.length_nil, Nat.reduceAdd, Nat.reduceSub, List.getElem?_nil, Int.reduceEq, if_true, if_false, reduceIte, fI_int, fAdd_int, fAdd_str, fAdd_list, fAdd_tuple, asI_int, asB_bool, fSl_list, fSl_tuple, fEq_str, fNe_str, fNe_list, fEq_list, fEq_int, fEq_unit, fNe_int, shaped_int, Bool.false_eq_true, true_or, or_true, true_and, and_true, false_or, or_false, fIsi_intE, fIsi_boolE, fIsi_tupleE, isIntB, isBoolB, isTupB, truD, Bool.not_false, Bool.not_true])
section
variable {P : Program} {w : World} {K : PySem.W.Frag} {mg : Str → Option Value} {base : Heap}
theorem fI2_int {g : Int → Int → Int} {i j : Int} {Φ : PyData → Prop} : fI2 g (.int i) (.int j) Φ = Φ (.int (g i j)) := propext ⟨fun h => h.2, fun h => ⟨trivial, h⟩⟩

abbrev s__law_some_visit : Stmt := topS 38
theorem sc__law_some_visit : FnScope ["pen", "many", "row", "one", "lap"] ["pen", "many"] (defScope s__law_some_visit) := ⟨rfl, rfl, rfl, by decide +kernel, rfl, by decide +kernel, by decide +kernel⟩
def w__law_some_visit : WFn := fun svs Φ => match svs with
  | [.pen, .d (.int m)] => ∃ n : Nat, m = (n : Nat) ∧ (n = 1 ∨ n = 2) ∧ ∀ (a b : Int) (ns : List Int), (a = 0 ∨ a = 1) → (b = 0 ∨ b = 1) → ns.length = n → (∀ x ∈ ns, 0 ≤ x ∧ x ≤ 1000) → Φ (vis a b ns)
  | _ => False
theorem ok__law_some_visit (B : Blt mg) (hs : ∃ o, base.get? sysModules = some o) (D__law_draw : DefD P w K mg base 2 "_law_draw" 2 w__law_draw)  (F : HasDef K mg "_law_some_visit" s__law_some_visit ["pen", "many"]) : DefD P w K mg base 3 "_law_some_visit" 2 w__law_some_visit := by
  refine F.ok (k := 2) sc__law_some_visit fun f cdv A outer s H E hr gd => ⟨_, _, (dss_cons (ds_set (i := 2) sc__law_some_visit.nd rfl (by first | exact Or.inl rfl | exact Or.inr rfl) (de_tuple B.b_tuple (da_cons (DF.to (df_lc (own := [("lap", 4)]) rfl sc__law_some_visit.nd (di_range1 rfl B.b_range (da_cons (dv 1) da_nil)) (blkOk_by (N := ["pen", "many", "row", "one", "lap"]) (sc := (defScope s__law_some_visit)) (own := [("lap", 4)]) (by decide +kernel)) (by decide) (fun _ _ _ _ _ => (dg_name (i := 4) sc__law_some_visit.nd rfl (by first | exact Or.inl rfl | exact Or.inr rfl))) (fun _ _ _ _ _ => dts_nil) (fun _ _ _ _ _ => (de_add de_int (D__law_draw.call hr (by decide) gd (da_arg 0 (da_cons de_int da_nil))))))) da_nil)))
      (dss_cons (ds_set (i := 3) sc__law_some_visit.nd rfl (by first | exact Or.inl rfl | exact Or.inr rfl) (D__law_draw.call hr (by decide) gd (da_arg 0 (da_cons de_int da_nil))))
      (dss_one (ds_ret (de_add (de_tup (da_cons (dv 3) (da_cons (de_max rfl B.b_max (da_cons (dv 3) (da_cons (D__law_draw.call hr (by decide) gd (da_arg 0 (da_cons de_int da_nil))) da_nil))) da_nil))) (dv 2)))))), ?_⟩
  intro svs Φ hl hw
  unfold w__law_some_visit at hw
  split at hw
  · obtain ⟨n, rfl, hn, hw⟩ := hw
    walk_at "dw"
    refine ⟨by omega, by omega, ?_⟩
    refine lcW_ind (fun i acc => ∃ ns : List Int, acc = ns.map .int ∧ ns.length = i ∧ ∀ x ∈ ns, 0 ≤ x ∧ x ≤ 1000) ⟨[], rfl, rfl, fun _ z => (nomatch z)⟩ (fun i x acc k hx ih hk => ?_) (fun acc ih => ?_)
    · obtain ⟨rfl, hi⟩ := upto_get hx
      obtain ⟨ns, rfl, h1, h2⟩ := ih
      walk_at "dw"
      refine ⟨by decide, small_nat (by decide), fun r r0 r1 => ?_⟩
      walk_at "dw"
      refine ⟨by rw [List.length_map, h1]; exact Nat.lt_of_lt_of_le (show i < 5 by omega) (small_line (by decide)), hk _ ⟨ns ++ [1 + r], by rw [List.map_append]; rfl, by rw [List.length_append, h1]; rfl, fun x hx => ?_⟩⟩
      rcases List.mem_append.mp hx with hx | hx
      · exact h2 x hx
      · rw [List.mem_singleton.mp hx]; omega
    · obtain ⟨ns, rfl, h1, h2⟩ := ih
      rw [upto_len] at h1
      refine ⟨by decide, small_nat (by decide), fun a a0 a1 => ?_⟩
      refine ⟨by decide, small_nat (by decide), fun c c0 c1 => ?_⟩
      simp only [fI2_int]
      refine ⟨small_line (by decide), small_line (by simp; omega), ?_⟩
      exact hw a (if c > a then c else a) ns (by omega) (by split <;> omega) (by omega) h2
  · exact hw.elim

abbrev s__law_homed : Stmt := topS 40
theorem sc__law_homed : FnScope ["pen", "visits", "one"] ["pen", "visits"] (defScope s__law_homed) := ⟨rfl, rfl, rfl, by decide +kernel, rfl, by decide +kernel, by decide +kernel⟩
theorem cut_init {α : Type} (us : List α) (y : α) : cutD (us ++ [y]) none (some (-1)) = us := by
  unfold cutD
  have e : HT.sIx (us ++ [y]).length (us ++ [y]).length (some (-1)) = us.length := by
    show (if (-1 : Int) < 0 then ((-1 : Int) + (((us ++ [y]).length : Nat) : Int)).toNat else min (-1 : Int).toNat (us ++ [y]).length) = us.length
    rw [if_pos (by decide), List.length_append, List.length_singleton]
    omega
  rw [e, HT.sIx_none, List.drop_zero, Nat.sub_zero]
  exact List.take_left' rfl
def w__law_homed : WFn := fun svs Φ => match svs with
  | [.pen, .d (.tuple vs)] => ∃ (us : List PyData) (y : PyData) (a b : Int) (ns : List Int), vs = us ++ [y] ∧ (us ++ [y])[0]? = some (vis a b ns) ∧ us.length ≤ 2000 ∧ ns.length ≤ 100 ∧ ∀ c e : Int, (c = 0 ∨ c = 1) → (e = 0 ∨ e = 1) → Φ (.tuple (us ++ [vis c e ns]))
  | _ => False
theorem ok__law_homed (B : Blt mg) (hs : ∃ o, base.get? sysModules = some o) (D__law_draw : DefD P w K mg base 2 "_law_draw" 2 w__law_draw)  (F : HasDef K mg "_law_homed" s__law_homed ["pen", "visits"]) : DefD P w K mg base 3 "_law_homed" 2 w__law_homed := by
  refine F.ok (k := 2) sc__law_homed fun f cdv A outer s H E hr gd => ⟨_, _, (dss_cons (ds_set (i := 2) sc__law_homed.nd rfl (by first | exact Or.inl rfl | exact Or.inr rfl) (D__law_draw.call hr (by decide) gd (da_arg 0 (da_cons de_int da_nil))))
      (dss_one (ds_ret (de_add (de_sl (dv 1) do_none (do_some (de_neg de_int))) (de_tup (da_cons (de_add (de_tup (da_cons (dv 2) (da_cons (de_max rfl B.b_max (da_cons (dv 2) (da_cons (D__law_draw.call hr (by decide) gd (da_arg 0 (da_cons de_int da_nil))) da_nil))) da_nil))) (de_sl (de_ix (dv 1) de_int) (do_some de_int) do_none)) da_nil)))))), ?_⟩
  intro svs Φ hl hw
  unfold w__law_homed at hw
  split at hw
  · obtain ⟨us, y, a, b, ns, rfl, h0, hz, hz2, hw⟩ := hw
    walk_at "dw"
    have i0 : ∀ Φ : PyData → Prop, fIx (.tuple (us ++ [y])) (.int 0) Φ = Φ (vis a b ns) := fun Φ => by
      rw [show (0 : Int) = ((0 : Nat) : Int) from rfl, ix_at h0]
    refine ⟨by decide, small_nat (by decide), fun c c0 c1 => ?_⟩
    refine ⟨by decide, small_nat (by decide), fun e e0 e1 => ?_⟩
    simp only [fI2_int, i0]
    unfold vis
    walk_at "dw"
    rw [row_drop2, cut_init]
    refine ⟨small_line (by decide), small_line (by simp; omega), small_line (by decide), small_line (by simp; omega), ?_⟩
    exact hw c (if e > c then e else c) (by omega) (by split <;> omega)
  · exact hw.elim

abbrev s__law_hops_on : Stmt := topS 31
theorem sc__law_hops_on : FnScope ["table", "standing", "numbers", "rises", "some", "look"] ["table", "standing", "numbers", "rises"] (defScope s__law_hops_on) := ⟨rfl, rfl, rfl, by decide +kernel, rfl, by decide +kernel, by decide +kernel⟩
def w__law_hops_on : WFn := fun svs Φ => match svs with
  | [.d (.tuple zs), .d (.int s), .d (.tuple ds), .d (.bool true)] => ∃ (n : Nat) (ns : List Int), (n = 1 ∨ n = 2) ∧ (∀ z ∈ zs, z ∈ everyL n) ∧ zs.length ≤ 400 ∧ ds = ns.map .int ∧ ns.length ≤ 100 ∧ ∀ os, (∀ l ∈ os, l ∈ zs) → os.length ≤ zs.length → Φ (.list os)
  | _ => False
theorem ok__law_hops_on (B : Blt mg) (hs : ∃ o, base.get? sysModules = some o) (D__law_ranks : DefD P w K mg base 1 "_law_ranks" 1 w__law_ranks) (D__law_half : DefD P w K mg base 1 "_law_half" 2 w__law_half)  (F : HasDef K mg "_law_hops_on" s__law_hops_on ["table", "standing", "numbers", "rises"]) : DefD P w K mg base 2 "_law_hops_on" 4 w__law_hops_on := by
  refine F.ok (k := 1) sc__law_hops_on fun f cdv A outer s H E hr gd => ⟨_, _, (dss_cons (ds_setLc (i := 4) (own := [("look", 5)]) rfl sc__law_hops_on.nd rfl rfl (sw_true rfl rfl rfl (by decide +kernel)) (di_seq (dv 0)) (blkOk_by (N := ["table", "standing", "numbers", "rises", "some", "look"]) (sc := (defScope s__law_hops_on)) (own := [("look", 5)]) (by decide +kernel)) (by decide) (fun _ _ _ _ _ => (dg_name (i := 5) sc__law_hops_on.nd rfl (by first | exact Or.inl rfl | exact Or.inr rfl))) (fun _ _ _ _ _ => (dts_one (DW.dt' (dw_or (dt_eq hr.units (de_ix (dv 5) de_int) (dv 1)) (dw_or1 (DW.dt' (dw_and (dt_tru (dv 3)) (dw_and1 (dt_gt (de_ix (dv 5) de_int) (dv 1)))))))))) (fun _ _ _ _ _ => (dv 5)))
      (dss_one (ds_ret (DF.to (df_lc (own := [("look", 5)]) rfl sc__law_hops_on.nd (di_seq (dv 4)) (blkOk_by (N := ["table", "standing", "numbers", "rises", "some", "look"]) (sc := (defScope s__law_hops_on)) (own := [("look", 5)]) (by decide +kernel)) (by decide) (fun _ _ _ _ _ => (dg_name (i := 5) sc__law_hops_on.nd rfl (by first | exact Or.inl rfl | exact Or.inr rfl))) (fun _ _ _ _ _ => (dts_one (dt_eq hr.units (D__law_ranks.call hr (by decide) gd (da_cons (D__law_half.call hr (by decide) gd (da_cons (de_ix (dv 5) de_int) (da_cons de_int da_nil))) da_nil)) (D__law_ranks.call hr (by decide) gd (da_cons (dv 2) da_nil))))) (fun _ _ _ _ _ => (dv 5))))))), ?_⟩
  intro svs Φ hl hw
  unfold w__law_hops_on at hw
  split at hw
  · rename_i zs s ds
    obtain ⟨n, ns, hn, hzs, hz, rfl, hns, hw⟩ := hw
    walk_at "dw"
    refine lcW_ind (fun i acc => (∀ l ∈ acc, l ∈ zs) ∧ acc.length ≤ i) ⟨fun _ z => (nomatch z), Nat.le_refl _⟩ (fun i x acc k hx ih hk => ?_) (fun some ih => ?_)
    · have hi := (List.getElem?_eq_some_iff.mp hx).1
      obtain ⟨a, b, r, rfl, ha, hb, hr⟩ := every_iff.mp (hzs x (List.mem_of_getElem? hx))
      have yes : acc.length < sizeLine ∧ k (acc ++ [lk a b r]) := ⟨Nat.lt_of_le_of_lt ih.2 (Nat.lt_of_lt_of_le (show i < 401 by omega) (small_line (by decide))), hk _ ⟨fun l hl => (List.mem_append.mp hl).elim (ih.1 l) fun z => by rw [List.mem_singleton.mp z]; exact List.mem_of_getElem? hx, by rw [List.length_append]; exact Nat.succ_le_succ ih.2⟩⟩
      have no : k acc := hk _ ⟨ih.1, Nat.le_succ_of_le ih.2⟩
      unfold lk at yes ⊢
      walk_at "dw"
      simp only [ix_0, fEq_int, shaped_int, true_and, asB_bool, truD, if_true, fI_int]
      split
      · exact yes
      · split
        · exact yes
        · exact no
    · refine lcW_ind (fun i acc => (∀ l ∈ acc, l ∈ zs) ∧ acc.length ≤ i) ⟨fun _ z => (nomatch z), Nat.le_refl _⟩ (fun i x acc k hx ih2 hk => ?_) (fun os ih2 => hw os ih2.1 (Nat.le_trans ih2.2 ih.2))
      have hi := (List.getElem?_eq_some_iff.mp hx).1
      have hle := ih.2
      have hm := ih.1 x (List.mem_of_getElem? hx)
      obtain ⟨a, b, r, rfl, ha, hb, hr⟩ := every_iff.mp (hzs x hm)
      have yes : acc.length < sizeLine ∧ k (acc ++ [lk a b r]) := ⟨Nat.lt_of_le_of_lt ih2.2 (Nat.lt_of_lt_of_le (show i < 401 by omega) (small_line (by decide))), hk _ ⟨fun l hl => (List.mem_append.mp hl).elim (ih2.1 l) fun z => by rw [List.mem_singleton.mp z]; exact hm, by rw [List.length_append]; exact Nat.succ_le_succ ih2.2⟩⟩
      have no : k acc := hk _ ⟨ih2.1, Nat.le_succ_of_le ih2.2⟩
      have hr2 := order_len hr
      unfold lk at yes ⊢
      walk_at "dw"
      rw [ix_2]
      unfold tupI at yes ⊢
      refine ⟨r.map .int, 0, rfl, rfl, by rw [List.length_map]; omega, ?_⟩
      rw [if_pos rfl, ← List.map_take]
      refine ⟨_, .inr rfl, by rw [List.length_take]; omega, ns, .inr rfl, by omega, fEq_row ?_⟩
      rw [asB_bool]
      split
      · exact yes
      · exact no
  · exact hw.elim

theorem dPut_len (kd : List (Key × PyData)) (k : Key) (d : PyData) : (dPut kd k d).length ≤ kd.length + 1 := by
  unfold dPut
  split
  · rw [List.length_map]; omega
  · rw [List.length_append]; exact Nat.le_refl _
theorem dGet_cons {p : Key × PyData} {kd : List (Key × PyData)} {j : Key} : dGet (p :: kd) j = if p.1 = j then some p.2 else dGet kd j := by
  unfold dGet
  by_cases h : p.1 = j
  · rw [List.find?_cons_of_pos (by simpa using h), if_pos h]; rfl
  · rw [List.find?_cons_of_neg (by simpa using h), if_neg h]
theorem dGet_over (k : Key) (d : PyData) (j : Key) : ∀ kd : List (Key × PyData), dGet (kd.map fun p => if p.1 = k then (p.1, d) else p) j = if j = k then (if (kd.any fun p => decide (p.1 = k)) then some d else none) else dGet kd j
  | [] => by simp [dGet]
  | p :: kd => by
    rw [List.map_cons, dGet_cons, dGet_over k d j kd, dGet_cons, List.any_cons]
    by_cases h1 : p.1 = k
    · rw [if_pos h1]
      by_cases h2 : j = k
      · rw [if_pos h2, if_pos (h1.trans h2.symm), if_pos h2, decide_eq_true h1]; rfl
      · rw [if_neg h2, if_neg h2, if_neg (fun z => h2 (z.symm.trans h1)), if_neg (fun z => h2 (z.symm.trans h1))]
    · rw [if_neg h1, decide_eq_false h1, Bool.false_or]
      by_cases h2 : j = k
      · rw [if_pos h2, if_pos h2, if_neg (fun z => h1 (z.trans h2))]
      · rw [if_neg h2, if_neg h2]
theorem dGet_snoc (k : Key) (d : PyData) (j : Key) : ∀ kd : List (Key × PyData), (kd.any fun p => decide (p.1 = k)) = false → dGet (kd ++ [(k, d)]) j = if j = k then some d else dGet kd j
  | [], _ => by
    rw [List.nil_append, dGet_cons]
    by_cases h : k = j
    · rw [if_pos h, if_pos h.symm]
    · rw [if_neg h, if_neg (Ne.symm h)]
  | p :: kd, hn => by
    rw [List.any_cons, Bool.or_eq_false_iff] at hn
    rw [List.cons_append, dGet_cons, dGet_snoc k d j kd hn.2, dGet_cons]
    have h1 : ¬ p.1 = k := by simpa using hn.1
    by_cases h2 : j = k
    · rw [if_pos h2, if_pos h2, if_neg (fun z => h1 (z.trans h2))]
    · rw [if_neg h2, if_neg h2]
theorem dGet_put (kd : List (Key × PyData)) (k : Key) (d : PyData) (j : Key) : dGet (dPut kd k d) j = if j = k then some d else dGet kd j := by
  unfold dPut
  cases h : kd.any fun p => decide (p.1 = k) with
  | true => rw [if_pos rfl, dGet_over, h]; rfl
  | false => rw [if_neg (by decide), dGet_snoc k d j kd h]
/-- no dict of one's own -/
def NoD (s : SV) : Prop := ∀ kd, s ≠ .ownD kd
theorem noD_d (x : PyData) : NoD (.d x) := fun _ h => nomatch h
theorem noD_un : NoD .un := fun _ h => nomatch h
theorem only4 {x a b c e : SV} {kd : List (Key × PyData)} {r : List SV} (hx : NoD x) (ha : NoD a) (hb : NoD b) (hc : NoD c) (he : NoD e) (hr : ∀ s ∈ r, NoD s) : OnlyD 4 (x :: a :: b :: c :: .ownD kd :: e :: r) := by
  intro j kd' h
  match j, h with
  | 0, h => exact absurd (Option.some.inj h) (hx kd')
  | 1, h => exact absurd (Option.some.inj h) (ha kd')
  | 2, h => exact absurd (Option.some.inj h) (hb kd')
  | 3, h => exact absurd (Option.some.inj h) (hc kd')
  | 4, _ => rfl
  | 5, h => exact absurd (Option.some.inj h) (he kd')
  | j + 6, h =>
    have h' : r[j]? = some (.ownD kd') := by simpa using h
    exact absurd rfl (hr _ (List.mem_of_getElem? h') kd')
theorem fMem_ints {i : Int} {ns : List Int} {Φ : PyData → Prop} (h : ∀ k : Bool, Φ (.bool k)) : fMem id (.int i) (.tuple (ns.map .int)) Φ :=
  ⟨_, .inr rfl, rfl, canLay_ints ns, Nat.zero_le _, h _⟩

abbrev s__law_beside : Stmt := topS 30
theorem sc__law_beside : FnScope ["pen", "u", "row", "many", "found", "low", "rank", "same", "other", "number"] ["pen", "u", "row"] (defScope s__law_beside) := ⟨rfl, rfl, rfl, by decide +kernel, rfl, by decide +kernel, by decide +kernel⟩
def w__law_beside : WFn := fun svs Φ => match svs with
  | [.pen, .d (.tuple us), .d (.tuple rs)] => ∃ (n : Nat) (ns r : List Int) (b : Int), (n = 1 ∨ n = 2) ∧ us = ns.map .int ∧ ns.length = n ∧ rs = r.map .int ∧ r ∈ ordersD n ∧ 0 ≤ b ∧ (∀ x ∈ ns, 0 ≤ x ∧ x ≤ b) ∧
    ∀ ms : List Int, ms.length = n → (∀ x ∈ ms, 0 ≤ x ∧ x ≤ b + 12) → Φ (tupI ms)
  | _ => False
theorem ok__law_beside (B : Blt mg) (hs : ∃ o, base.get? sysModules = some o) (D__law_draw : DefD P w K mg base 2 "_law_draw" 2 w__law_draw)  (F : HasDef K mg "_law_beside" s__law_beside ["pen", "u", "row"]) : DefD P w K mg base 3 "_law_beside" 3 w__law_beside := by
  refine F.ok (k := 2) sc__law_beside fun f cdv A outer s H E hr gd => ⟨_, _, (dss_cons (ds_triD (i := 3) (j := 4) (k := 5) rfl sc__law_beside.nd rfl rfl rfl (by first | exact Or.inl rfl | exact Or.inr rfl) (by first | exact Or.inl rfl | exact Or.inr rfl) (by first | exact Or.inl rfl | exact Or.inr rfl) (de_len B.b_len (da_cons (dv 1) da_nil)) de_int)
      (dss_cons (ds_for PassesOwn.never rfl (di_range1 rfl B.b_range (da_cons (de_mul de_int (dv 3)) da_nil)) (dg_name (i := 6) sc__law_beside.nd rfl (by first | exact Or.inl rfl | exact Or.inr rfl)) (dss_cons (ds_setLc (i := 7) (own := [("other", 8), ("number", 9)]) rfl sc__law_beside.nd rfl rfl (sw_true rfl rfl rfl (by decide +kernel)) (di_zip B.b_zip (da_cons (de_sl (dv 2) do_none (do_some (dv 3))) (da_cons (dv 1) da_nil))) (blkOk_by (N := ["pen", "u", "row", "many", "found", "low", "rank", "same", "other", "number"]) (sc := (defScope s__law_beside)) (own := [("other", 8), ("number", 9)]) (by decide +kernel)) (by decide) (fun _ _ _ _ _ => (dg_tup (n := 2) rfl (dgs_cons (dg_name (i := 8) sc__law_beside.nd rfl (by first | exact Or.inl rfl | exact Or.inr rfl)) (dgs_cons (dg_name (i := 9) sc__law_beside.nd rfl (by first | exact Or.inl rfl | exact Or.inr rfl)) dgs_nil)))) (fun _ _ _ _ _ => (dts_one (dt_eq hr.units (dv 8) (dv 6)))) (fun _ _ _ _ _ => (dv 9)))
      (dss_cons (ds_if (dt_ne hr.units (dv 7) (DF.to (df_lst da_nil))) (dss_one (ds_set (i := 5) sc__law_beside.nd rfl (by first | exact Or.inl rfl | exact Or.inr rfl) (de_ix (dv 7) de_int))) (dss_one (ds_if (dt_in hr.units (dv 6) (de_sl (dv 2) (do_some (dv 3)) do_none)) (dss_one (ds_set (i := 5) sc__law_beside.nd rfl (by first | exact Or.inl rfl | exact Or.inr rfl) (de_add (de_add (dv 5) de_int) (D__law_draw.call hr (by decide) gd (da_arg 0 (da_cons de_int da_nil)))))) dss_nil)))
      (dss_one (ds_dset 4 hr.units (dv 5) (dv 6))))))
      (dss_one (ds_frzD 4 (ds_ret (de_tuple B.b_tuple (da_cons (DF.to (df_lc (own := [("rank", 6)]) rfl sc__law_beside.nd (di_seq (de_sl (dv 2) (do_some (dv 3)) do_none)) (blkOk_by (N := ["pen", "u", "row", "many", "found", "low", "rank", "same", "other", "number"]) (sc := (defScope s__law_beside)) (own := [("rank", 6)]) (by decide +kernel)) (by decide) (fun _ _ _ _ _ => (dg_name (i := 6) sc__law_beside.nd rfl (by first | exact Or.inl rfl | exact Or.inr rfl))) (fun _ _ _ _ _ => dts_nil) (fun _ _ _ _ _ => (de_dget (hu_of hr) (dv 4) (dv 6))))) da_nil))))))), ?_⟩
  intro svs Φ hl hw
  unfold w__law_beside at hw
  split at hw
  · rename_i us rs
    obtain ⟨n, ns, r, b, hn, rfl, hns, rfl, hr, hb, hx, hw⟩ := hw
    have hr2 := order_len hr
    walk_at "dw"
    refine ⟨by decide, by decide, by decide, cmul_l ⟨by decide, by decide⟩, by rw [List.length_map]; omega, by rw [List.length_map]; omega, ?_⟩
    refine forW_ind (fun i δ => ∃ kd low s6 s7 s8 s9, δ = [.pen, .d (.tuple (ns.map .int)), .d (.tuple (r.map .int)), .d (.int ((ns.map PyData.int).length : Nat)), .ownD kd, .d (.int low), s6, s7, s8, s9] ∧ NoD s6 ∧ NoD s7 ∧ NoD s8 ∧ NoD s9 ∧ 0 ≤ low ∧ low ≤ b + 3 * (i : Nat) ∧ kd.length ≤ i ∧
      ∀ j : Nat, j < i → ∃ v : Int, dGet kd (.inl ((j : Nat) : Int)) = some (.int v) ∧ 0 ≤ v ∧ v ≤ b + 12) ⟨[], 0, _, _, _, _, rfl, noD_un, noD_un, noD_un, noD_un, by omega, by omega, Nat.le_refl _, fun j hj => absurd hj (Nat.not_lt_zero j)⟩ ?_ ?_
    · rintro i x δ k hx2 ⟨kd, low, s6, s7, s8, s9, rfl, n6, n7, n8, n9, l0, l1, hkd, hget⟩ hk
      obtain ⟨rfl, hi⟩ := upto_get hx2
      rw [List.length_map] at hi
      have hi4 : i < 2 * n := by omega
      have fin : ∀ (low' : Int) (t7 t8 t9 : SV), NoD t7 → NoD t8 → NoD t9 → 0 ≤ low' → low' ≤ b + 3 * ((i + 1 : Nat) : Int) → wDset 4 (wVar 5) (wVar 6) { ({ nx := k, rt := Φ, ct := k, bk := k } : DP) with } [.pen, .d (.tuple (ns.map .int)), .d (.tuple (r.map .int)), .d (.int ((ns.map PyData.int).length : Nat)), .ownD kd, .d (.int low'), .d (.int (0 + (i : Nat))), t7, t8, t9] := by
        intro low' t7 t8 t9 m7 m8 m9 h0 h1
        refine ⟨kd, rfl, only4 (fun _ z => nomatch z) (noD_d _) (noD_d _) (noD_d _) (noD_d _) (fun s hs => ?_), Nat.lt_of_le_of_lt hkd (Nat.lt_of_lt_of_le (show i < 5 by omega) (small_line (by decide))), ?_⟩
        · simp only [List.mem_cons, List.not_mem_nil, or_false] at hs
          rcases hs with rfl | rfl | rfl | rfl
          · exact noD_d _
          · exact m7
          · exact m8
          · exact m9
        · walk_at "dw"
          refine ⟨.inl (0 + (i : Nat)), rfl, hk _ ⟨_, _, _, _, _, _, rfl, noD_d _, m7, m8, m9, h0, h1, Nat.le_trans (dPut_len _ _ _) (Nat.succ_le_succ hkd), fun j hj => ?_⟩⟩
          rw [dGet_put]
          by_cases e : j = i
          · subst e
            exact ⟨low', by rw [if_pos (by rw [Int.zero_add])], h0, by omega⟩
          · rw [if_neg (fun z => e (by have := Sum.inl.inj z; omega))]
            exact hget j (by omega)
      walk_at "dw"
      have et : cutD (r.map PyData.int) none (some (((ns.map PyData.int).length : Nat) : Int)) = (r.take n).map .int := by
        rw [cut_to _ _ (by rw [List.length_map, List.length_map]; omega), List.length_map, hns, List.map_take]
      have ed : cutD (r.map PyData.int) (some (((ns.map PyData.int).length : Nat) : Int)) none = (r.drop n).map .int := by
        rw [cut_from _ _ (by rw [List.length_map, List.length_map]; omega), List.length_map, hns, List.map_drop]
      rw [et]
      refine lcW_ind (fun j acc => ∃ js : List Int, acc = js.map .int ∧ js.length ≤ j ∧ ∀ y ∈ js, y ∈ ns) ⟨[], rfl, Nat.le_refl _, fun _ z => (nomatch z)⟩ (fun j y acc k2 hy ih hk2 => ?_) (fun acc ih => ?_)
      · obtain ⟨p, q, hp, hq, rfl⟩ := zip_at hy
        obtain ⟨js, rfl, hj, hm⟩ := ih
        rw [List.getElem?_map] at hp hq
        obtain ⟨p', _, rfl⟩ := Option.map_eq_some_iff.mp hp
        obtain ⟨q', hq2, rfl⟩ := Option.map_eq_some_iff.mp hq
        have hjl := (List.getElem?_eq_some_iff.mp hq2).1
        walk_at "dw"
        split
        · refine ⟨by rw [List.length_map]; exact Nat.lt_of_le_of_lt hj (Nat.lt_of_lt_of_le (show j < 5 by omega) (small_line (by decide))), hk2 _ ⟨js ++ [q'], by rw [List.map_append]; rfl, by rw [List.length_append]; exact Nat.succ_le_succ hj, fun y hy => ?_⟩⟩
          rcases List.mem_append.mp hy with z | z
          · exact hm y z
          · rw [List.mem_singleton.mp z]; exact List.mem_of_getElem? hq2
        · exact hk2 _ ⟨js, rfl, by omega, hm⟩
      · obtain ⟨js, rfl, hj, hm⟩ := ih
        refine ⟨Nat.zero_le _, shaped_ints_l _, shaped_nil_l, ?_⟩
        rw [show PyData.eqv (.list (js.map .int)) (.list []) = _ from eqv_ints_l js []]
        cases js with
        | cons j0 js =>
          rw [if_pos (by simp)]
          show fIx (.list (.int j0 :: js.map .int)) (.int 0) _
          rw [ixl_0]
          have hj0 := hx j0 (hm j0 List.mem_cons_self)
          exact fin j0 _ _ _ (noD_d _) n8 n9 hj0.1 (by omega)
        | nil =>
          rw [if_neg (by simp), ed]
          refine fMem_ints fun kk => ?_
          rw [asB_bool]
          split
          · refine ⟨by decide, small_nat (by decide), fun z z0 z1 => ?_⟩
            exact fin (low + 1 + z) _ _ _ (noD_d _) n8 n9 (by omega) (by omega)
          · exact fin low _ _ _ (noD_d _) n8 n9 l0 (by omega)
    · rintro δ ⟨kd, low, s6, s7, s8, s9, rfl, n6, n7, n8, n9, l0, l1, hkd, hget⟩
      rw [upto_len, List.length_map] at hget
      have ed : cutD (r.map PyData.int) (some (((ns.map PyData.int).length : Nat) : Int)) none = (r.drop n).map .int := by
        rw [cut_from _ _ (by rw [List.length_map, List.length_map]; omega), List.length_map, hns, List.map_drop]
      walk_at "dw"
      rw [ed]
      refine ⟨only4 (fun _ z => nomatch z) (noD_d _) (noD_d _) (noD_d _) (noD_d _) (fun s hs => ?_), ?_⟩
      · simp only [List.mem_cons, List.not_mem_nil, or_false] at hs
        rcases hs with rfl | rfl | rfl | rfl
        · exact n6
        · exact n7
        · exact n8
        · exact n9
      · refine lcW_ind (fun j acc => ∃ js : List Int, acc = js.map .int ∧ js.length = j ∧ ∀ y ∈ js, 0 ≤ y ∧ y ≤ b + 12) ⟨[], rfl, rfl, fun _ z => (nomatch z)⟩ (fun j y acc k2 hy ih hk2 => ?_) (fun acc ih => ?_)
        · obtain ⟨js, rfl, hj, hm⟩ := ih
          rw [List.getElem?_map] at hy
          obtain ⟨q, hq, rfl⟩ := Option.map_eq_some_iff.mp hy
          have hjl := (List.getElem?_eq_some_iff.mp hq).1
          rw [List.length_drop] at hjl
          have hq2 := order_bound hr (List.mem_of_mem_drop (List.mem_of_getElem? hq))
          obtain ⟨q', rfl⟩ := Int.eq_ofNat_of_zero_le hq2.1
          obtain ⟨v, hv, v0, v1⟩ := hget q' (by omega)
          walk_at "dw"
          refine ⟨kd, .inl ((q' : Nat) : Int), _, rfl, rfl, hv, by rw [List.length_map, hj]; exact Nat.lt_of_lt_of_le (show j < 5 by omega) (small_line (by decide)), hk2 _ ⟨js ++ [v], by rw [List.map_append]; rfl, by rw [List.length_append, hj]; rfl, fun y hy => ?_⟩⟩
          rcases List.mem_append.mp hy with z | z
          · exact hm y z
          · rw [List.mem_singleton.mp z]; exact ⟨v0, v1⟩
        · obtain ⟨js, rfl, hj, hm⟩ := ih
          rw [List.length_map, List.length_drop] at hj
          exact hw js (by omega) hm
  · exact hw.elim

end
end DL
namespace DL
open PySem PySem.Spec PyProof.Rows L2
local macro_rules | `(tactic| walk_at "dw") => `(tactic| simp only [wSeq, wIfS, wB, wOp, fCmp, wPen, wVar, wPenSet, wArg, wNil, wCons, wCall, f1, f2, wSet, wRet, wRetN, wNx, wAnd, wOr, wUn, wIf, wTru, wNotT, wAndT, wOrT, wC, wData, wTup, wLst, wLc, wIS, wIL, wIT, wFor, wSl, wPar, wAsg, wgName, wgTup, wgNil, wgCons, wOwn, wApp, wExt, wFrz, frz, wDrop, wYes, wLc2, wDc, wSortSet, wLenSet, wLenSetT, wSortSetN, wParO, wLenL, wDget, wZip, wZip3, wParF, wTriD, wOwnD, wFrzD, DL.frzD, wLenO, wIxO, wChain, wDef, wNever, fLen, allD, Option.map_some, wipeD,
    List.map_cons, List.map_nil, List.cons_append, List.nil_append, List.append_nil, List.replicate_succ, List.replicate_zero, List.getElem?_cons_zero, List.getElem?_cons_succ, List.set_cons_zero, List.set_cons_succ, List.length_cons, List.length_nil, Nat.reduceAdd, Nat.reduceSub, List.getElem?_nil, Int.reduceEq, if_true, if_false, reduceIte, fI_int, fAdd_int, fAdd_str, fAdd_list, fAdd_tuple, asI_int, asB_bool, fSl_list, fSl_tuple, fEq_str, fNe_str, fNe_list, fEq_list, fEq_int, fEq_unit, fNe_int, shaped_int, Bool.false_eq_true, true_or, or_true, true_and, and_true, false_or, or_false])
local macro_rules | `(tactic| walk_at "dx") => `(tactic| simp only [wSeq, wIfS, wB, wOp, fCmp, wPen, wVar, wPenSet, wArg, wNil, wCons, wCall, f1, f2, wSet, wRet, wRetN, wNx, wAnd, wOr, wUn, wIf, wTru, wNotT, wAndT, wOrT, wC, wData, wTup, wLst, wLc, wIS, wIL, wIT, wFor, wSl, wPar, wAsg, wgName, wgTup, wgNil, wgCons, wOwn, wApp, wExt, wFrz, frz, wDrop, wYes, wLc2, wDc, wSortSet, wLenSet, wLenSetT, wSortSetN, wParO, wLenL, wDget, wZip, wZip3, wParF, wTriD, wOwnD, wFrzD, DL.frzD, wLenO, wIxO, wChain, wDef, wNever, fLen, allD, Option.map_some, wipeD,
    List.map_cons, List.map_nil, List.cons_append, List.nil_append, List.append_nil, List.replicate_succ, List.replicate_zero, List.getElem?_cons_zero, List.getElem?_cons_succ, List.set_cons_zero, List.set_cons_succ, List.length_cons, List.length_nil, Nat.reduceAdd, Nat.reduceSub, List.getElem?_nil, Int.reduceEq, if_true, if_false, reduceIte, fI_int, fAdd_int, fAdd_str, fAdd_list, fAdd_tuple, asI_int, asB_bool, fSl_list, fSl_tuple, fEq_str, fNe_str, fNe_list, fEq_list, fEq_int, fEq_unit, fNe_int, shaped_int, Bool.false_eq_true, true_or, or_true, true_and, and_true, false_or, or_false, fIsi_intE, fIsi_boolE, fIsi_tupleE, isIntB, isBoolB, isTupB, truD, Bool.not_false, Bool.not_true])
section
variable {P : Program} {w : World} {K : PySem.W.Frag} {mg : Str → Option Value} {base : Heap}
def lkS : PyData → PyData
  | .tuple [s, _, _] => s
  | _ => .none
def lkT : PyData → PyData
  | .tuple [_, t, _] => t
  | _ => .none
def Bit (d : PyData) : Prop := ∃ a : Int, d = .int a ∧ (a = 0 ∨ a = 1)
theorem every_bits {n : Nat} {l : PyData} (h : l ∈ everyL n) : Bit (lkS l) ∧ Bit (lkT l) := by
  obtain ⟨s, t, r, rfl, hs, ht, _⟩ := every_iff.mp h
  exact ⟨⟨s, rfl, hs⟩, ⟨t, rfl, ht⟩⟩

abbrev s__law_visits_of : Stmt := topS 33
theorem sc__law_visits_of : FnScope ["looks", "rows", "comes", "goes", "look", "one", "two", "row"] ["looks", "rows"] (defScope s__law_visits_of) := ⟨rfl, rfl, rfl, by decide +kernel, rfl, by decide +kernel, by decide +kernel⟩
def w__law_visits_of : WFn := fun svs Φ => match svs with
  | [.d (.list ls), .d (.list rws)] => ∃ (n : Nat) (rows : List (List Int)), ls ≠ [] ∧ (∀ l ∈ ls, l ∈ everyL n) ∧ ls.length ≤ 100 ∧ rws = rows.map tupI ∧ rows.length = ls.length + 1 ∧ (∀ r ∈ rows, r.length ≤ 10) ∧
    ∀ vs : List PyData, vs.length = ls.length + 1 → (∀ v ∈ vs, ∃ (a b : Int) (ns : List Int), v = vis a b ns ∧ (a = 0 ∨ a = 1) ∧ (b = 0 ∨ b = 1) ∧ ns ∈ rows) → Φ (.tuple vs)
  | _ => False
theorem ok__law_visits_of (B : Blt mg) (hs : ∃ o, base.get? sysModules = some o)   (F : HasDef K mg "_law_visits_of" s__law_visits_of ["looks", "rows"]) : DefD P w K mg base 1 "_law_visits_of" 2 w__law_visits_of := by
  refine F.ok (k := 0) sc__law_visits_of fun f cdv A outer s H E hr gd => ⟨_, _, (dss_cons (ds_set (i := 2) sc__law_visits_of.nd rfl (by first | exact Or.inl rfl | exact Or.inr rfl) (de_add (DF.to (df_lst (da_cons (de_ix (de_ix (dv 0) de_int) de_int) da_nil))) (DF.to (df_lc (own := [("look", 4)]) rfl sc__law_visits_of.nd (di_seq (dv 0)) (blkOk_by (N := ["looks", "rows", "comes", "goes", "look", "one", "two", "row"]) (sc := (defScope s__law_visits_of)) (own := [("look", 4)]) (by decide +kernel)) (by decide) (fun _ _ _ _ _ => (dg_name (i := 4) sc__law_visits_of.nd rfl (by first | exact Or.inl rfl | exact Or.inr rfl))) (fun _ _ _ _ _ => dts_nil) (fun _ _ _ _ _ => (de_ix (dv 4) de_int))))))
      (dss_cons (ds_set (i := 3) sc__law_visits_of.nd rfl (by first | exact Or.inl rfl | exact Or.inr rfl) (de_add (DF.to (df_lc (own := [("look", 4)]) rfl sc__law_visits_of.nd (di_seq (dv 0)) (blkOk_by (N := ["looks", "rows", "comes", "goes", "look", "one", "two", "row"]) (sc := (defScope s__law_visits_of)) (own := [("look", 4)]) (by decide +kernel)) (by decide) (fun _ _ _ _ _ => (dg_name (i := 4) sc__law_visits_of.nd rfl (by first | exact Or.inl rfl | exact Or.inr rfl))) (fun _ _ _ _ _ => dts_nil) (fun _ _ _ _ _ => (de_ix (dv 4) de_int)))) (DF.to (df_lst (da_cons (de_ix (de_ix (dv 0) (de_neg de_int)) de_int) da_nil)))))
      (dss_one (ds_ret (de_tuple B.b_tuple (da_cons (DF.to (df_lc (own := [("one", 5), ("two", 6), ("row", 7)]) rfl sc__law_visits_of.nd (di_zip3 B.b_zip (da_cons (dv 2) (da_cons (dv 3) (da_cons (dv 1) da_nil)))) (blkOk_by (N := ["looks", "rows", "comes", "goes", "look", "one", "two", "row"]) (sc := (defScope s__law_visits_of)) (own := [("one", 5), ("two", 6), ("row", 7)]) (by decide +kernel)) (by decide) (fun _ _ _ _ _ => (dg_tup (n := 3) rfl (dgs_cons (dg_name (i := 5) sc__law_visits_of.nd rfl (by first | exact Or.inl rfl | exact Or.inr rfl)) (dgs_cons (dg_name (i := 6) sc__law_visits_of.nd rfl (by first | exact Or.inl rfl | exact Or.inr rfl)) (dgs_cons (dg_name (i := 7) sc__law_visits_of.nd rfl (by first | exact Or.inl rfl | exact Or.inr rfl)) dgs_nil))))) (fun _ _ _ _ _ => dts_nil) (fun _ _ _ _ _ => (de_add (de_tup (da_cons (dv 5) (da_cons (dv 6) da_nil))) (dv 7))))) da_nil)))))), ?_⟩
  intro svs Φ hl hw
  unfold w__law_visits_of at hw
  split at hw
  · rename_i ls rws
    obtain ⟨n, rows, hne, hls, hz, rfl, hrl, hrs, hw⟩ := hw
    obtain ⟨us, y, e⟩ := last_of hne
    obtain ⟨l0, lr, e2⟩ : ∃ l0 lr, ls = l0 :: lr := by cases ls with
      | nil => exact absurd rfl hne
      | cons a b => exact ⟨a, b, rfl⟩
    have i0 : ∀ Φ : PyData → Prop, fIx (.list ls) (.int 0) Φ = Φ l0 := fun Φ => by rw [e2, ixl_0]
    have i1 : ∀ Φ : PyData → Prop, fIx (.list ls) (.int (-1)) Φ = Φ y := fun Φ => by rw [e, ixl_last]
    obtain ⟨s0, t0, r0, hl0, hs0, ht0, _⟩ := every_iff.mp (hls l0 (by rw [e2]; exact List.mem_cons_self))
    obtain ⟨s1, t1, r1, hl1, hs1, ht1, _⟩ := every_iff.mp (hls y (by rw [e]; exact List.mem_append_right _ (List.mem_singleton.mpr rfl)))
    walk_at "dw"
    rw [i0, hl0]
    unfold lk
    rw [ix_0]
    refine ⟨small_line (by decide), ?_⟩
    refine lcW_map lkT (fun x hx yes hy => ?_) (small_line (by omega)) ?_
    · obtain ⟨s, t, r, rfl, _⟩ := every_iff.mp (hls x hx)
      walk_at "dw"
      unfold lk
      rw [ix_1]
      exact hy
    · refine ⟨small_line (by simp; omega), ?_⟩
      refine lcW_map lkS (fun x hx yes hy => ?_) (small_line (by omega)) ?_
      · obtain ⟨s, t, r, rfl, _⟩ := every_iff.mp (hls x hx)
        walk_at "dw"
        unfold lk
        rw [ix_0]
        exact hy
      · simp only [i1]
        rw [hl1]
        unfold lk
        rw [ix_1]
        refine ⟨small_line (by decide), small_line (by simp; omega), ?_⟩
        have b1 : ∀ d ∈ [PyData.int s0] ++ ls.map lkT, Bit d := fun d hd => by
          rcases List.mem_append.mp hd with z | z
          · rw [List.mem_singleton.mp z]; exact ⟨s0, rfl, hs0⟩
          · obtain ⟨l, hl, rfl⟩ := List.mem_map.mp z
            exact (every_bits (hls l hl)).2
        have b2 : ∀ d ∈ ls.map lkS ++ [PyData.int t1], Bit d := fun d hd => by
          rcases List.mem_append.mp hd with z | z
          · obtain ⟨l, hl, rfl⟩ := List.mem_map.mp z
            exact (every_bits (hls l hl)).1
          · rw [List.mem_singleton.mp z]; exact ⟨t1, rfl, ht1⟩
        have zl : (zip3D (PyData.int s0 :: ls.map lkT) (ls.map lkS ++ [PyData.int t1]) (rows.map tupI)).length = ls.length + 1 := by
          rw [zip3_len]
          simp only [List.length_cons, List.length_append, List.length_map, List.length_nil, hrl]
          omega
        refine lcW_ind (fun i acc => acc.length = i ∧ ∀ v ∈ acc, ∃ (a b : Int) (ns : List Int), v = vis a b ns ∧ (a = 0 ∨ a = 1) ∧ (b = 0 ∨ b = 1) ∧ ns ∈ rows) ⟨rfl, fun _ z => (nomatch z)⟩ (fun i x acc k hx ih hk => ?_) (fun acc ih => ?_)
        · have hi := (List.getElem?_eq_some_iff.mp hx).1
          obtain ⟨p, q, u, hp, hq, hu, rfl⟩ := zip3_at hx
          obtain ⟨a, rfl, ha⟩ := b1 p (List.mem_of_getElem? hp)
          obtain ⟨b, rfl, hb⟩ := b2 q (List.mem_of_getElem? hq)
          rw [List.getElem?_map] at hu
          obtain ⟨ns, hns, rfl⟩ := Option.map_eq_some_iff.mp hu
          have hnm := List.mem_of_getElem? hns
          have hnl := hrs ns hnm
          unfold tupI
          walk_at "dw"
          refine ⟨small_line (by decide), small_line (by simp; omega), by rw [ih.1]; exact Nat.lt_of_lt_of_le (show i < 102 by omega) (small_line (by decide)), hk _ ⟨by rw [List.length_append, ih.1]; rfl, fun v hv => ?_⟩⟩
          rcases List.mem_append.mp hv with z | z
          · exact ih.2 v z
          · rw [List.mem_singleton.mp z]
            exact ⟨a, b, ns, rfl, ha, hb, hnm⟩
        · rw [zl] at ih
          exact hw acc ih.1 ih.2
  · exact hw.elim

abbrev s__law_course : Stmt := topS 32
theorem sc__law_course : FnScope ["pen", "table", "most", "rises", "one", "rows", "looks", "some", "look", "row", "rank", "number"] ["pen", "table", "most", "rises"] (defScope s__law_course) := ⟨rfl, rfl, rfl, by decide +kernel, rfl, by decide +kernel, by decide +kernel⟩
def bnd (j : Nat) : Int := 40 * 9 ^ j
def RowsOk (n j : Nat) (rows : List (List Int)) : Prop := ∀ r ∈ rows, r.length = n ∧ ∀ x ∈ r, 0 ≤ x ∧ x ≤ bnd j
theorem bnd_pos (j : Nat) : 40 ≤ bnd j := by
  unfold bnd
  have : (0 : Int) < 9 ^ j := Int.pow_pos (by decide)
  omega
theorem bnd_mono {i j : Nat} (h : i ≤ j) : bnd i ≤ bnd j := by
  induction h with
  | refl => exact Int.le_refl _
  | step _ ih =>
    rename_i j _
    have h1 := bnd_pos j
    have h2 : bnd (j + 1) = 9 * bnd j := by
      unfold bnd
      rw [Int.pow_succ]
      omega
    show bnd i ≤ bnd (j + 1)
    omega
theorem shaped_lst {n : Nat} (hn : n = 1 ∨ n = 2) {ds : List PyData} (h : ∀ d ∈ ds, d ∈ everyL n) : SeqAt.shaped (.list ds) = true := by
  have h1 : PyData.canLayAll0 ds = true := layAll fun d hd => by
    obtain ⟨s, t, r, rfl, _⟩ := every_is hn (h d hd)
    exact lk_lay s t r
  have h2 : PyData.depthAll ds ≤ 2 := depthAll_le.mpr fun d hd => (every_is hn (h d hd)).depth
  unfold SeqAt.shaped
  refine Bool.and_eq_true_iff.mpr ⟨h1, decide_eq_true ?_⟩
  show PyData.depthAll ds + 1 ≤ 64
  omega
theorem bnd_succ (j : Nat) : bnd (j + 1) = 9 * bnd j := by
  unfold bnd
  rw [Int.pow_succ]
  omega
def scale8 : PyData → PyData
  | .tuple ds => .tuple (ds.map (onI fun x => .int (8 * x)))
  | d => d
theorem scale_at (r : List Int) : scale8 (tupI r) = tupI (r.map fun x => 8 * x) := by
  show PyData.tuple ((r.map PyData.int).map _) = PyData.tuple _
  rw [List.map_map, List.map_map]
  rfl
theorem small_line' {n : Nat} (h : n < 10000000) : n < sizeLine := by rw [sizeLine_eq]; omega
def w__law_course : WFn := fun svs Φ => match svs with
  | [.pen, .d (.tuple zs), .d (.int k), .d (.bool true)] => ∃ n : Nat, (n = 1 ∨ n = 2) ∧ (∀ z ∈ zs, z ∈ everyL n) ∧ zs ≠ [] ∧ zs.length ≤ 400 ∧ 1 ≤ k ∧ k ≤ 12 ∧ ∀ (ls : List PyData) (rows : List (List Int)), ls ≠ [] → ls.length ≤ 12 → (∀ l ∈ ls, l ∈ everyL n) → rows.length = ls.length + 1 → RowsOk n 12 rows → Φ (.tuple [.list ls, .list (rows.map tupI)])
  | _ => False
theorem ok__law_course (B : Blt mg) (hs : ∃ o, base.get? sysModules = some o) (D__law_one_of : DefD P w K mg base 3 "_law_one_of" 2 w__law_one_of) (D__law_half : DefD P w K mg base 1 "_law_half" 2 w__law_half) (D__law_beside : DefD P w K mg base 3 "_law_beside" 3 w__law_beside) (D__law_hops_on : DefD P w K mg base 2 "_law_hops_on" 4 w__law_hops_on)  (F : HasDef K mg "_law_course" s__law_course ["pen", "table", "most", "rises"]) : DefD P w K mg base 4 "_law_course" 4 w__law_course := by
  refine F.ok (k := 3) sc__law_course fun f cdv A outer s H E hr gd => ⟨_, _, (dss_cons (ds_set (i := 4) sc__law_course.nd rfl (by first | exact Or.inl rfl | exact Or.inr rfl) (D__law_one_of.call hr (by decide) gd (da_arg 0 (da_cons (dv 1) da_nil))))
      (dss_cons (ds_own (i := 5) sc__law_course.nd rfl (by first | exact Or.inl rfl | exact Or.inr rfl) (df_lst (da_cons (de_tuple B.b_tuple (da_cons (DF.to (df_lc (own := [("rank", 10)]) rfl sc__law_course.nd (di_seq (D__law_half.call hr (by decide) gd (da_cons (de_ix (dv 4) de_int) (da_cons de_int da_nil)))) (blkOk_by (N := ["pen", "table", "most", "rises", "one", "rows", "looks", "some", "look", "row", "rank", "number"]) (sc := (defScope s__law_course)) (own := [("rank", 10)]) (by decide +kernel)) (by decide) (fun _ _ _ _ _ => (dg_name (i := 10) sc__law_course.nd rfl (by first | exact Or.inl rfl | exact Or.inr rfl))) (fun _ _ _ _ _ => dts_nil) (fun _ _ _ _ _ => (de_add (de_mul de_int (dv 10)) de_int)))) da_nil)) da_nil)))
      (dss_cons (ds_parF (i := 6) (j := 7) rfl sc__law_course.nd rfl rfl (by decide) rfl rfl (DF.to (df_lst (da_cons (dv 4) da_nil))) (by rfl))
      (dss_cons (ds_while PassesOwn.never (DW.dt' (dw_and (dt_ne hr.units (dv 7) (DF.to (df_lst da_nil))) (dw_and1 (dt_lt (de_lenO 6 B.b_len (pa_cons (pe_var (i := 6) rfl (by first | exact Or.inl rfl | exact Or.inr (Or.inl rfl) | exact Or.inr (Or.inr rfl))) pa_nil)) (dv 2))))) (dss_cons (ds_set (i := 8) sc__law_course.nd rfl (by first | exact Or.inl rfl | exact Or.inr rfl) (D__law_one_of.call hr (by decide) gd (da_arg 0 (da_cons (dv 7) da_nil))))
      (dss_cons (ds_frz 5 (ds_ownLc (i := 5) (own := [("row", 9)]) rfl sc__law_course.nd rfl rfl (sw_true rfl rfl rfl (by decide +kernel)) (di_seq (dv 5)) (blkOk_by (N := ["pen", "table", "most", "rises", "one", "rows", "looks", "some", "look", "row", "rank", "number"]) (sc := (defScope s__law_course)) (own := [("row", 9)]) (by decide +kernel)) (by decide) (fun _ _ _ _ _ => (dg_name (i := 9) sc__law_course.nd rfl (by first | exact Or.inl rfl | exact Or.inr rfl))) (fun _ _ _ _ _ => dts_nil) (fun _ _ _ _ _ => (de_tuple B.b_tuple (da_cons (DF.to (df_lc (own := [("number", 11)]) rfl sc__law_course.nd (di_seq (dv 9)) (blkOk_by (N := ["pen", "table", "most", "rises", "one", "rows", "looks", "some", "look", "row", "rank", "number"]) (sc := (relS _ (defScope s__law_course))) (own := [("number", 11)]) (by decide +kernel)) (by decide) (fun _ _ _ _ _ => (dg_name (i := 11) sc__law_course.nd rfl (by first | exact Or.inl rfl | exact Or.inr rfl))) (fun _ _ _ _ _ => dts_nil) (fun _ _ _ _ _ => (de_mul de_int (dv 11))))) da_nil)))))
      (dss_cons (ds_app (i := 5) (pv 5) (D__law_beside.call hr (by decide) gd (da_arg 0 (da_cons (de_ixO 5 (de_neg de_int)) (da_cons (de_ix (dv 8) de_int) da_nil)))) (hpe := (pe_bm PySem.F.plainAttrs_list PySem.F.slot_list_append PySem.F.type_list_append mt_append (pv 5) (pa_cons (DE.pe (D__law_beside.call hr (by decide) gd (da_arg 0 (da_cons (de_ixO 5 (de_neg de_int)) (da_cons (de_ix (dv 8) de_int) da_nil))))) pa_nil))))
      (dss_cons (ds_app (i := 6) (pv 6) (dv 8) (hpe := (pe_bm PySem.F.plainAttrs_list PySem.F.slot_list_append PySem.F.type_list_append mt_append (pv 6) (pa_cons (DE.pe (dv 8)) pa_nil))))
      (dss_one (ds_set (i := 7) sc__law_course.nd rfl (by first | exact Or.inl rfl | exact Or.inr rfl) (D__law_hops_on.call hr (by decide) gd (da_cons (dv 1) (da_cons (de_ix (dv 8) de_int) (da_cons (de_ixO 5 (de_neg de_int)) (da_cons (dv 3) da_nil))))))))))))
      (dss_one (ds_frz 5 (ds_frz 6 (ds_ret (de_tup (da_cons (dv 6) (da_cons (dv 5) da_nil))))))))))), ?_⟩
  intro svs Φ hl hw
  unfold w__law_course at hw
  split at hw
  · rename_i zs k
    obtain ⟨n, hn, hzs, hne, hz, k0, k1, hw⟩ := hw
    walk_at "dw"
    refine ⟨hne, by omega, fun one hone => ?_⟩
    obtain ⟨s0, t0, r0, rfl, _, _, hr0⟩ := every_iff.mp (hzs one hone)
    have hr2 := order_len hr0
    unfold lk
    rw [ix_2]
    unfold tupI
    refine ⟨r0.map .int, 0, rfl, rfl, by rw [List.length_map]; omega, ?_⟩
    rw [if_pos rfl, ← List.map_take]
    refine lcW_map (onI fun x => .int (8 * x + 8)) (fun x hx yes hy => ?_) (small_line (by simp; omega)) ?_
    · obtain ⟨q, _, rfl⟩ := List.mem_map.mp hx
      walk_at "dw"
      exact ⟨cmul_l ⟨by decide, by decide⟩, hy⟩
    have e0 : ((r0.take ((r0.map PyData.int).length / 2)).map PyData.int).map (onI fun x => .int (8 * x + 8)) = ((r0.take n).map fun x => 8 * x + 8).map .int := by
      rw [List.length_map, hr2, show 2 * n / 2 = n by omega, List.map_map, List.map_map]
      rfl
    rw [e0]
    have h0 : RowsOk n 0 [(r0.take n).map fun x => 8 * x + 8] := fun r hr => by
      rw [List.mem_singleton] at hr
      subst hr
      refine ⟨by rw [List.length_map, List.length_take]; omega, fun x hx => ?_⟩
      obtain ⟨q, hq, rfl⟩ := List.mem_map.mp hx
      have := order_bound hr0 (List.mem_of_mem_take hq)
      have := bnd_pos 0
      omega
    refine ⟨small_line (by decide), by decide, by decide, by decide, by decide, small_line (by decide), ?_⟩
    refine ⟨fun m δ => ∃ (ls : List PyData) (rows : List (List Int)) (ys : List PyData) (s8 s9 s10 s11 : SV), δ = [.pen, .d (.tuple zs), .d (.int k), .d (.bool true), .d (lk s0 t0 r0), .own (rows.map tupI), .own ls, .d (.list ys), s8, s9, s10, s11] ∧
      ls.length + m = k.toNat ∧ rows.length = ls.length + 1 ∧ RowsOk n ls.length rows ∧ (∀ l ∈ ls, l ∈ everyL n) ∧ (∀ l ∈ ys, l ∈ everyL n) ∧ ys.length ≤ 400 ∧ (ls = [] → ys ≠ []), ⟨k.toNat, [], [(r0.take n).map fun x => 8 * x + 8], [lk s0 t0 r0], _, _, _, _, rfl, by simp, rfl, h0, fun _ z => (nomatch z), fun l hl => ?_, by simp, fun _ z => (nomatch z)⟩, ?_⟩
    · rw [List.mem_singleton.mp hl]
      exact hzs _ hone
    · rintro m δ ⟨ls, rows, ys, s8, s9, s10, s11, rfl, hm, hrl, hrows, hls, hsome, hsl, hemp⟩
      have done : (ls ≠ []) → Φ (.tuple [.list ls, .list (rows.map tupI)]) := fun h => by
        refine hw ls rows h (by omega) hls hrl fun r hr => ⟨(hrows r hr).1, fun x hx => ?_⟩
        have h1 := (hrows r hr).2 x hx
        have h2 : bnd ls.length ≤ bnd 12 := bnd_mono (by omega)
        omega
      walk_at "dw"
      refine ⟨Nat.zero_le _, shaped_lst hn hsome, shaped_nil_l, ?_⟩
      rw [eqv_nil]
      cases hse : ys.isEmpty with
      | true =>
        have hs0 : ys = [] := List.isEmpty_iff.mp hse
        simp only [Bool.not_true, Bool.false_eq_true, if_false]
        exact ⟨small_line (by decide), done fun e => hemp e hs0⟩
      | false =>
        simp only [Bool.not_false, if_true]
        refine ⟨_, rfl, ?_⟩
        split
        · rename_i hlt
          have hlt' : ((ls.length : Nat) : Int) < k := of_decide_eq_true hlt
          refine ⟨fun e => by rw [e] at hse; exact absurd hse (by decide), by omega, fun d hd => ?_⟩
          obtain ⟨s1, t1, r1, rfl, hs1, ht1, hr1⟩ := every_iff.mp (hsome d hd)
          refine lcW_map scale8 (fun x hx yes hy => ?_) (small_line (by rw [List.length_map]; omega)) ?_
          · obtain ⟨q, hq, rfl⟩ := List.mem_map.mp hx
            have hq2 := (hrows q hq).1
            rw [scale_at] at hy
            unfold tupI at hy ⊢
            walk_at "dw"
            refine lcW_map (onI fun x => .int (8 * x)) (fun x hx yes hy => ?_) (small_line (by rw [List.length_map]; omega)) ?_
            · obtain ⟨v, _, rfl⟩ := List.mem_map.mp hx
              walk_at "dw"
              exact ⟨cmul_l ⟨by decide, by decide⟩, hy⟩
            · have e1 : (q.map PyData.int).map (onI fun x => .int (8 * x)) = (q.map fun x => 8 * x).map .int := by
                rw [List.map_map, List.map_map]
                rfl
              rw [e1]
              exact hy
          · have e2 : (rows.map tupI).map scale8 = (rows.map fun r => r.map fun x => 8 * x).map tupI := by
              rw [List.map_map, List.map_map]
              exact List.map_congr_left fun r _ => scale_at r
            rw [e2]
            have hrl2 : (rows.map fun r => r.map fun x => 8 * x).length = ls.length + 1 := by rw [List.length_map, hrl]
            have hb0 := bnd_pos ls.length
            have hsc : ∀ r ∈ rows.map (fun r => r.map fun x => 8 * x), r.length = n ∧ ∀ x ∈ r, 0 ≤ x ∧ x ≤ 8 * bnd ls.length := fun r hr => by
              obtain ⟨q, hq, rfl⟩ := List.mem_map.mp hr
              refine ⟨by rw [List.length_map]; exact (hrows q hq).1, fun x hx => ?_⟩
              obtain ⟨v, hv, rfl⟩ := List.mem_map.mp hx
              have := (hrows q hq).2 v hv
              omega
            generalize (rows.map fun r => r.map fun x => 8 * x) = rows2 at *
            obtain ⟨us, y0, rfl⟩ := last_of (show rows2 ≠ [] from fun e => by rw [e] at hrl2; simp at hrl2)
            have hy0 := hsc y0 (List.mem_append_right _ (List.mem_singleton.mpr rfl))
            rw [List.map_append, List.map_singleton]
            refine ⟨by decide, _, rfl, -1, _, rfl, atI_last, ?_⟩
            unfold lk
            rw [ix_2]
            refine ⟨n, y0, r1, 8 * bnd ls.length, hn, rfl, hy0.1, rfl, hr1, by omega, hy0.2, fun ms hms hmb => ?_⟩
            refine ⟨?_, small_line' (by omega), ?_⟩
            · rw [← List.map_singleton, ← List.map_append, List.length_map, hrl2]
              exact small_line' (by omega)
            rw [ix_1]
            refine ⟨_, rfl, -1, _, rfl, atI_last, n, ms, hn, hzs, hz, rfl, by omega, fun os hos hol => ?_⟩
            refine ⟨m - 1, by omega, ls ++ [lk s1 t1 r1], us ++ [y0] ++ [ms], os, .d (lk s1 t1 r1), s9, s10, s11, ?_, ?_, ?_, ?_, ?_, ?_, ?_, ?_⟩
            · rw [List.map_append, List.map_append]
              rfl
            · rw [List.length_append, List.length_singleton]; omega
            · rw [List.length_append, hrl2, List.length_append]; rfl
            · intro r hr
              rw [List.length_append, List.length_singleton, bnd_succ]
              rcases List.mem_append.mp hr with z | z
              · have := hsc r z
                refine ⟨this.1, fun x hx => ?_⟩
                have := this.2 x hx
                omega
              · rw [List.mem_singleton.mp z]
                refine ⟨hms, fun x hx => ?_⟩
                have := hmb x hx
                omega
            · intro l hl
              rcases List.mem_append.mp hl with z | z
              · exact hls l z
              · rw [List.mem_singleton.mp z]; exact hsome _ hd
            · exact fun l hl => hzs l (hos l hl)
            · omega
            · intro e
              simp at e
        · rename_i hge
          have hge' : ¬ ((ls.length : Nat) : Int) < k := fun z => hge (decide_eq_true z)
          exact ⟨small_line (by decide), done fun e => by rw [e] at hge'; simp at hge'; omega⟩
  · exact hw.elim

end
end DL
namespace DL
open PySem PySem.Spec PyProof.Rows L2
local macro_rules | `(tactic| walk_at "dw") => `(tactic| simp only [wSeq, wIfS, wB, wOp, fCmp, wPen, wVar, wPenSet, wArg, wNil, wCons, wCall, f1, f2, wSet, wRet, wRetN, wNx, wAnd, wOr, wUn, wIf, wTru, wNotT, wAndT, wOrT, wC, wData, wTup, wLst, wLc, wIS, wIL, wIT, wFor, wSl, wPar, wAsg, wgName, wgTup, wgNil, wgCons, wOwn, wApp, wExt, wFrz, frz, wDrop, wYes, wLc2, wDc, wSortSet, wLenSet, wLenSetT, wSortSetN, wParO, wLenL, wDget, wZip, wZip3, wParF, wTriD, wOwnD, wFrzD, DL.frzD, wLenO, wIxO, wChain, wDef, wNever, fLen, allD, Option.map_some, wipeD,
    List.map_cons, List.map_nil, List.cons_append, List.nil_append, List.append_nil, List.replicate_succ, List.replicate_zero, List.getElem?_cons_zero, List.getElem?_cons_succ, List.set_cons_zero, List.set_cons_succ, List.length_cons, List.length_nil, Nat.reduceAdd, Nat.reduceSub, List.getElem?_nil, Int.reduceEq, if_true, if_false, reduceIte, fI_int, fAdd_int, fAdd_str, fAdd_list, fAdd_tuple, asI_int, asB_bool, fSl_list, fSl_tuple, fEq_str, fNe_str, fNe_list, fEq_list, fEq_int, fEq_unit, fNe_int, shaped_int, Bool.false_eq_true, true_or, or_true, true_and, and_true, false_or, or_false])
local macro_rules | `(tactic| walk_at "dx") => `(tactic| simp only [wSeq, wIfS, wB, wOp, fCmp, wPen, wVar, wPenSet, wArg, wNil, wCons, wCall, f1, f2, wSet, wRet, wRetN, wNx, wAnd, wOr, wUn, wIf, wTru, wNotT, wAndT, wOrT, wC, wData, wTup, wLst, wLc, wIS, wIL, wIT, wFor, wSl, wPar, wAsg, wgName, wgTup, wgNil, wgCons, wOwn, wApp, wExt, wFrz, frz, wDrop, wYes, wLc2, wDc, wSortSet, wLenSet, wLenSetT, wSortSetN, wParO, wLenL, wDget, wZip, wZip3, wParF, wTriD, wOwnD, wFrzD, DL.frzD, wLenO, wIxO, wChain, wDef, wNever, fLen, allD, Option.map_some, wipeD,
    List.map_cons, List.map_nil, List.cons_append, List.nil_append, List.append_nil, List.replicate_succ, List.replicate_zero, List.getElem?_cons_zero, List.getElem?_cons_succ, List.set_cons_zero, List.set_cons_succ, List.length_cons, List.length_nil, Nat.reduceAdd, Nat.reduceSub, List.getElem?_nil, Int.reduceEq, if_true, if_false, reduceIte, fI_int, fAdd_int, fAdd_str, fAdd_list, fAdd_tuple, asI_int, asB_bool, fSl_list, fSl_tuple, fEq_str, fNe_str, fNe_list, fEq_list, fEq_int, fEq_unit, fNe_int, shaped_int, Bool.false_eq_true, true_or, or_true, true_and, and_true, false_or, or_false, fIsi_intE, fIsi_boolE, fIsi_tupleE, isIntB, isBoolB, isTupB, truD, Bool.not_false, Bool.not_true])
section
variable {P : Program} {w : World} {K : PySem.W.Frag} {mg : Str → Option Value} {base : Heap}
theorem JOk_of {b : Nat} {d : PyData} (hb : b ≤ 190) (hf : fine b d = true) (hd : d.depth ≤ 60) (hc : cost d ≤ 10000000) (hw : wid d ≤ 900) : JOk d := by
  refine ⟨repr_ok (by omega) hf hd hc, fun vs e => ?_, fine_mono hb hf⟩
  subst e
  have h1 := wid_len hw
  rw [wid_tuple] at hw
  exact ⟨by omega, widAll_le.mp (Nat.le_trans (Nat.le_max_right _ _) hw)⟩
theorem cost_tuple (xs : List PyData) : cost (.tuple xs) = costAll xs + 3 := by rw [cost]
theorem cost_list (xs : List PyData) : cost (.list xs) = costAll xs + 3 := by rw [cost]
theorem cost_none : cost .none = 4 := by rw [cost]
/-- a visit with bounded numbers -/
def VisOk (v : PyData) : Prop := ∃ (a b : Int) (ns : List Int), v = vis a b ns ∧ (a = 0 ∨ a = 1) ∧ (b = 0 ∨ b = 1) ∧ ns.length ≤ 2 ∧ ∀ x ∈ ns, x.natAbs < 2 ^ 140
theorem vis_ints (a b : Int) (ns : List Int) : vis a b ns = .tuple ((a :: b :: ns).map .int) := rfl
theorem VisOk.fine {v : PyData} (h : VisOk v) : DL.fine 140 v = true := by
  obtain ⟨a, b, ns, rfl, ha, hb, _, hx⟩ := h
  rw [vis_ints]
  unfold DL.fine
  have bit : ∀ c : Int, (c = 0 ∨ c = 1) → c.natAbs < 2 ^ 140 := fun c hc => Nat.lt_of_lt_of_le (show c.natAbs < 2 by omega) (by decide)
  refine ints_fine fun n hn => ?_
  rcases List.mem_cons.mp hn with rfl | hn
  · exact bit _ ha
  · rcases List.mem_cons.mp hn with rfl | hn
    · exact bit _ hb
    · exact hx n hn
theorem VisOk.cost {v : PyData} (h : VisOk v) : DL.cost v ≤ 8011 := by
  obtain ⟨a, b, ns, rfl, _, _, hl, _⟩ := h
  rw [vis_ints]
  unfold DL.cost
  rw [ints_cost]
  simp only [List.length_cons]
  omega
theorem VisOk.depth {v : PyData} (h : VisOk v) : v.depth ≤ 1 := by
  obtain ⟨a, b, ns, rfl, _⟩ := h
  rw [vis_ints]
  simp only [PyData.depth, depth_ints]
  exact Nat.le_refl _
theorem VisOk.wid {v : PyData} (h : VisOk v) : DL.wid v ≤ 4 := by
  obtain ⟨a, b, ns, rfl, _, _, hl, _⟩ := h
  rw [vis_ints, wid_ints]
  simp only [List.length_cons]
  omega
theorem vis_cost {vs : List PyData} (h : ∀ v ∈ vs, VisOk v) : costAll vs ≤ vs.length * 8013 := cost_sum fun v hv => (h v hv).cost
theorem vis_fine {vs : List PyData} (h : ∀ v ∈ vs, VisOk v) : fine 140 (.tuple vs) = true := by
  unfold fine
  exact fineAll_iff.mpr fun v hv => (h v hv).fine
theorem vis_depth {vs : List PyData} (h : ∀ v ∈ vs, VisOk v) : PyData.depthAll vs ≤ 1 := depthAll_le.mpr fun v hv => (h v hv).depth
theorem JOk_vis {vs : List PyData} (h : ∀ v ∈ vs, VisOk v) (hl : vs.length ≤ 1100) : JOk (.tuple vs) := by
  have h1 := vis_cost h
  have h2 := vis_depth h
  refine ⟨repr_ok (b := 140) (by decide) (vis_fine h) (by simp only [PyData.depth]; omega) (by unfold cost; omega), fun ws e => ?_, fine_mono (by decide) (vis_fine h)⟩
  cases e
  exact ⟨by omega, fun x hx => Nat.le_trans (h x hx).wid (by decide)⟩
theorem JOk_lst {vs : List PyData} (h : ∀ v ∈ vs, VisOk v) (hl : vs.length ≤ 1100) : JOk (.list vs) := by
  have h1 := vis_cost h
  have h2 := vis_depth h
  have h3 : fine 140 (.list vs) = true := by
    unfold fine
    exact fineAll_iff.mpr fun v hv => (h v hv).fine
  have h4 : WidOk (.list vs) := fun ws e => nomatch e
  exact ⟨repr_ok (b := 140) (by decide) h3 (by simp only [PyData.depth]; omega) (by rw [cost_list]; omega), h4, fine_mono (by decide) h3⟩
theorem JOk_odd {d : PyData} (h : d ∈ oddList) : JOk d := by
  have h1 := odd_bent (b := 140) (Nat.le_refl _) .none h
  obtain ⟨f1, f2, f3, f4⟩ := h1
  exact JOk_of (b := 141) (by decide) f1 (by have : PyData.depth .none = 0 := rfl; omega) (by rw [cost_none] at f2; omega) (by have : wid .none = 0 := rfl; omega)
theorem JOk_bent {vs : List PyData} (h : ∀ v ∈ vs, VisOk v) (hl : vs.length ≤ 20) {d : PyData} (hb : Bent 140 (.tuple vs) d) : JOk d := by
  obtain ⟨f1, f2, f3, f4⟩ := hb
  have h1 := vis_cost h
  have h2 := vis_depth h
  have h3 : widAll vs ≤ 4 := widAll_le.mpr fun v hv => (h v hv).wid
  refine JOk_of (b := 141) (by decide) f1 ?_ ?_ ?_
  · simp only [PyData.depth] at f3; omega
  · rw [cost_tuple] at f2; omega
  · rw [wid_tuple] at f4; omega

theorem rep_one (k : Int) (d : PyData) : repD k [d] = List.replicate k.toNat d := by
  unfold repD
  rw [List.flatten_replicate_singleton]
theorem mulS1 {d : PyData} {k : Int} {Φ : PyData → Prop} (h1 : 1 ≤ k) (h2 : k ≤ 4000) (h : Φ (.tuple (List.replicate k.toNat d))) : fMulS (.tuple [d]) (.int k) Φ :=
  ⟨by simp, h1, h2, by simp, by rw [rep_one]; exact h⟩
theorem mulL1 {d : PyData} {k : Int} {Φ : PyData → Prop} (h1 : 1 ≤ k) (h2 : k ≤ 4000) (h : Φ (.list (List.replicate k.toNat d))) : fMulS (.list [d]) (.int k) Φ :=
  ⟨by simp, h1, h2, by simp, by rw [rep_one]; exact h⟩
/-- visits that are judged alike have the form -/
theorem are_form {n : Nat} {v : PyData} (hf : fine 190 v = true) (h : areB n v = true) : ∃ vs : List PyData, v = .tuple vs ∧ 3 ≤ vs.length ∧ vs.length ≤ 1000 ∧ ∀ v ∈ vs, IsVis n v := by
  cases v with
  | tuple vs =>
    have k3 : (decide (3 ≤ vs.length) && decide (vs.length ≤ 1000) && vs.all (visL n)) = true := h
    simp only [Bool.and_eq_true, decide_eq_true_eq] at k3
    have hf2 : ∀ x ∈ vs, fine 190 x = true := fineAll_iff.mp (by unfold fine at hf; exact hf)
    exact ⟨vs, rfl, k3.1.1, k3.1.2, fun v hv => vis_form (by rw [← visL_eq (hf2 v hv)]; exact List.all_eq_true.mp k3.2 v hv)⟩
  | _ => exact absurd h Bool.false_ne_true
theorem zeros_order {n : Nat} (hn : n = 1 ∨ n = 2) : List.replicate (2 * n) (0 : Int) ∈ ordersD n := by
  rcases hn with rfl | rfl
  · exact order_iff.mpr ⟨rfl, by decide⟩
  · exact order_iff.mpr ⟨rfl, by decide⟩
theorem alike_vis {n : Nat} (hn : n = 1 ∨ n = 2) (k : Int) : PyData.tuple ([.int 1, .int 1] ++ List.replicate ((n : Nat) : Int).toNat (.int k)) = vis 1 1 (List.replicate n k) := by
  rcases hn with rfl | rfl <;> rfl
theorem alike_ok {n : Nat} (hn : n = 1 ∨ n = 2) {k : Int} (hk : k.natAbs < 2 ^ 140) : VisOk (vis 1 1 (List.replicate n k)) :=
  ⟨1, 1, _, rfl, .inr rfl, .inr rfl, by rw [List.length_replicate]; omega, fun x hx => by rw [(List.mem_replicate.mp hx).2]; exact hk⟩
theorem bnd12 : bnd 12 < 2 ^ 60 := by decide
theorem row_vis {n : Nat} {rows : List (List Int)} (hn : n = 1 ∨ n = 2) (h : RowsOk n 12 rows) {v : PyData} (hv : ∃ (a b : Int) (ns : List Int), v = vis a b ns ∧ (a = 0 ∨ a = 1) ∧ (b = 0 ∨ b = 1) ∧ ns ∈ rows) : VisOk v := by
  obtain ⟨a, b, ns, rfl, ha, hb, hm⟩ := hv
  refine ⟨a, b, ns, rfl, ha, hb, by have := (h ns hm).1; omega, fun x hx => ?_⟩
  have h1 := (h ns hm).2 x hx
  have h2 := bnd12
  exact Nat.lt_of_lt_of_le (show x.natAbs < 2 ^ 60 by omega) (by decide)
/-- a journey whose ends are told -/
def Ends (d : PyData) : Prop := ∃ (us : List PyData) (a b c e : Int) (ns ms : List Int), d = .tuple (us ++ [vis c e ms]) ∧ (us ++ [vis c e ms])[0]? = some (vis a b ns)

abbrev s__law_pen : Stmt := topS 15
theorem sc__law_pen : FnScope ["script"] ["script"] (defScope s__law_pen) := ⟨rfl, rfl, rfl, by decide +kernel, rfl, by decide +kernel, by decide +kernel⟩
theorem ok__law_pen (B : Blt mg) {f : Addr} {fd : FuncData} (F : Fun K "_law_pen" "_law_pen" s__law_pen f fd) : FnG P w K mg base CX0 1 f fd ["script"] (spPen K) := by
  refine fnG_ok (k := 0) F sc__law_pen (fun vs H Q E h => by obtain ⟨a, ns, rfl, _⟩ := h; rfl) fun cdv A outer s H vs Q E hr gd h => ?_
  obtain ⟨a, ns, rfl, hS, q⟩ := h
  refine ⟨_, DSs.pe (dss_one (ds_ret (DF.to (df_lst (da_cons (de_list B.b_list (da_cons (de_sl (dv 0) do_none (do_some de_int)) da_nil)) (da_cons de_int (da_cons de_int da_nil))))))), ?_⟩
  refine ⟨_, rfl, ?_⟩
  refine ⟨63, rfl, ?_⟩
  refine .inl ⟨a, _, rfl, hS, fun g1 h1 => ?_⟩
  refine ⟨g1, _, rfl, .inl (SqL.of upd_same), fun g hg => ?_⟩
  refine ⟨show 3 ≤ sizeLine from small_line (by decide), fun p hp => ?_⟩
  obtain ⟨e1, ne, sm⟩ := pen_heap h1 hg hp
  refine q p g (cutD ns none (some 63)) _ e1 sm upd_same ?_ ne
  rw [upd_ne ne, upd_same, cut_ints]

abbrev s_law : Stmt := topS 42
theorem sc_law : FnScope ["script", "pen", "turn", "many", "table", "free", "values", "visits", "looks", "rows", "course", "journey", "alike", "visit", "late", "some", "value", "lap", "most"] ["script"] (defScope s_law) := ⟨rfl, rfl, rfl, by decide +kernel, rfl, by decide +kernel, by decide +kernel⟩
theorem ok_law (B : Blt mg) (hs : ∃ o, base.get? sysModules = some o) (D__law_draw : DefD P w K mg base 2 "_law_draw" 2 w__law_draw) (D__law_any_table : DefD P w K mg base 6 "_law_any_table" 3 w__law_any_table) (D__law_some_visit : DefD P w K mg base 3 "_law_some_visit" 2 w__law_some_visit) (D__law_odd : DefD P w K mg base 4 "_law_odd" 1 w__law_odd) (D__law_course : DefD P w K mg base 4 "_law_course" 4 w__law_course) (D__law_visits_of : DefD P w K mg base 1 "_law_visits_of" 2 w__law_visits_of) (D__law_homed : DefD P w K mg base 3 "_law_homed" 2 w__law_homed) (D__law_bent : DefD P w K mg base 7 "_law_bent" 3 w__law_bent) (D__law_all_judged : DefD P w K mg base 6 "_law_all_judged" 3 w__law_all_judged) (D__law_are_visits : DefD P w K mg base 4 "_law_are_visits" 2 w__law_are_visits) (D_comes_back : DefD P w K mg base 1 "comes_back" 1 w_comes_back) (D__law_comes_back : DefD P w K mg base 1 "_law_comes_back" 1 w__law_comes_back) {fp f : Addr} {fdp fd : FuncData} (Fp : FnG P w K mg base CX0 1 fp fdp ["script"] (spPen K)) (hmp : mg "_law_pen" = some (.ref fp)) (hkp : PySem.W.keepIn K (.ref fp) = true) (hbp : Binds K fdp ["script"] [])
    (F : Fun K "law" "law" s_law f fd) : FnG P w K mg base CX0 8 f fd ["script"] (spLawL K) := by
  refine fnG_ok (k := 7) F sc_law (fun vs H Q E h => by obtain ⟨a, ns, rfl, _⟩ := h; rfl) fun cdv A outer s H vs Q E hr gd h => ?_
  obtain ⟨a, xs, rfl, hlen, hS, q⟩ := h
  have R : ∃ t wb, DSs (cxOf CX0 P w K mg base ["script", "pen", "turn", "many", "table", "free", "values", "visits", "looks", "rows", "course", "journey", "alike", "visit", "late", "some", "value", "lap", "most"] "law" (defScope s_law) f cdv A outer s H E).nox (defBody s_law).tail t wb ∧
      wb { nx := fun _ => False, rt := fun d => d = .bool true } ([.lenL xs.length, .pen] ++ List.replicate 17 .un) := by
    refine ⟨_, _, (dss_cons (ds_for PassesOwn.never rfl (di_range1 rfl B.b_range (da_cons (de_max rfl B.b_max (da_cons de_int (da_cons (de_min rfl B.b_min (da_cons de_int (da_cons (de_lenL 0 B.b_len (pa_cons (pe_var (i := 0) rfl (by first | exact Or.inl rfl | exact Or.inr (Or.inl rfl) | exact Or.inr (Or.inr rfl))) pa_nil)) da_nil))) da_nil))) da_nil)) (dg_name (i := 2) sc_law.nd rfl (by first | exact Or.inl rfl | exact Or.inr rfl)) (dss_cons (ds_set (i := 3) sc_law.nd rfl (by first | exact Or.inl rfl | exact Or.inr rfl) (de_add de_int (D__law_draw.call hr (by decide) gd (da_arg 1 (da_cons de_int da_nil)))))
      (dss_cons (ds_set (i := 4) sc_law.nd rfl (by first | exact Or.inl rfl | exact Or.inr rfl) (D__law_any_table.call hr (by decide) gd (da_arg 1 (da_cons (dv 3) (da_cons de_int da_nil)))))
      (dss_cons (ds_set (i := 5) sc_law.nd rfl (by first | exact Or.inl rfl | exact Or.inr rfl) (de_tuple B.b_tuple (da_cons (DF.to (df_lc (own := [("lap", 17)]) rfl sc_law.nd (di_range1 rfl B.b_range (da_cons (de_add de_int (D__law_draw.call hr (by decide) gd (da_arg 1 (da_cons de_int da_nil)))) da_nil)) (blkOk_by (N := ["script", "pen", "turn", "many", "table", "free", "values", "visits", "looks", "rows", "course", "journey", "alike", "visit", "late", "some", "value", "lap", "most"]) (sc := (defScope s_law)) (own := [("lap", 17)]) (by decide +kernel)) (by decide) (fun _ _ _ _ _ => (dg_name (i := 17) sc_law.nd rfl (by first | exact Or.inl rfl | exact Or.inr rfl))) (fun _ _ _ _ _ => dts_nil) (fun _ _ _ _ _ => (D__law_some_visit.call hr (by decide) gd (da_arg 1 (da_cons (dv 3) da_nil)))))) da_nil)))
      (dss_cons (ds_set (i := 6) sc_law.nd rfl (by first | exact Or.inl rfl | exact Or.inr rfl) (DF.to (df_lst (da_cons (dv 5) (da_cons (D__law_odd.call hr (by decide) gd (da_arg 1 da_nil)) da_nil)))))
      (dss_cons (ds_if (dt_ne hr.units (dv 4) (de_tup da_nil)) (dss_cons (ds_asg (D__law_course.call hr (by decide) gd (da_arg 1 (da_cons (dv 4) (da_cons (de_add de_int (D__law_draw.call hr (by decide) gd (da_arg 1 (da_cons de_int da_nil)))) (da_cons de_bl da_nil))))) (dg_tup (n := 2) rfl (dgs_cons (dg_name (i := 8) sc_law.nd rfl (by first | exact Or.inl rfl | exact Or.inr rfl)) (dgs_cons (dg_name (i := 9) sc_law.nd rfl (by first | exact Or.inl rfl | exact Or.inr rfl)) dgs_nil))))
      (dss_cons (ds_set (i := 10) sc_law.nd rfl (by first | exact Or.inl rfl | exact Or.inr rfl) (D__law_visits_of.call hr (by decide) gd (da_cons (dv 8) (da_cons (dv 9) da_nil))))
      (dss_cons (ds_set (i := 6) sc_law.nd rfl (by first | exact Or.inl rfl | exact Or.inr rfl) (de_add (dv 6) (DF.to (df_lst (da_cons (dv 10) (da_cons (de_sl (dv 10) (do_some de_int) do_none) (da_cons (D__law_homed.call hr (by decide) gd (da_arg 1 (da_cons (dv 10) da_nil))) da_nil)))))))
      (dss_one (ds_set (i := 6) sc_law.nd rfl (by first | exact Or.inl rfl | exact Or.inr rfl) (de_add (dv 6) (DF.to (df_lc (own := [("lap", 17)]) rfl sc_law.nd (di_range1 rfl B.b_range (da_cons de_int da_nil)) (blkOk_by (N := ["script", "pen", "turn", "many", "table", "free", "values", "visits", "looks", "rows", "course", "journey", "alike", "visit", "late", "some", "value", "lap", "most"]) (sc := (defScope s_law)) (own := [("lap", 17)]) (by decide +kernel)) (by decide) (fun _ _ _ _ _ => (dg_name (i := 17) sc_law.nd rfl (by first | exact Or.inl rfl | exact Or.inr rfl))) (fun _ _ _ _ _ => dts_nil) (fun _ _ _ _ _ => (D__law_bent.call hr (by decide) gd (da_arg 1 (da_cons (dv 10) (da_cons de_int da_nil))))))))))))) dss_nil)
      (dss_cons (ds_if (dt_not (dt_tru (D__law_all_judged.call hr (by decide) gd (da_cons (dv 4) (da_cons (dv 3) (da_cons (dv 6) da_nil)))))) (dss_one (ds_ret de_bl)) dss_nil)
      (dss_cons (ds_for PassesOwn.never rfl (di_list (DF.to (df_lc (own := [("value", 16)]) rfl sc_law.nd (di_seq (dv 6)) (blkOk_by (N := ["script", "pen", "turn", "many", "table", "free", "values", "visits", "looks", "rows", "course", "journey", "alike", "visit", "late", "some", "value", "lap", "most"]) (sc := (defScope s_law)) (own := [("value", 16)]) (by decide +kernel)) (by decide) (fun _ _ _ _ _ => (dg_name (i := 16) sc_law.nd rfl (by first | exact Or.inl rfl | exact Or.inr rfl))) (fun _ _ _ _ _ => (dts_one (dt_tru (D__law_are_visits.call hr (by decide) gd (da_cons (dv 3) (da_cons (dv 16) da_nil)))))) (fun _ _ _ _ _ => (dv 16))))) (dg_name (i := 7) sc_law.nd rfl (by first | exact Or.inl rfl | exact Or.inr rfl)) (dss_one (ds_for PassesOwn.never rfl (di_tup (de_tup (da_cons (dv 7) (da_cons (D__law_homed.call hr (by decide) gd (da_arg 1 (da_cons (dv 7) da_nil))) da_nil)))) (dg_name (i := 11) sc_law.nd rfl (by first | exact Or.inl rfl | exact Or.inr rfl)) (dss_one (ds_if (dt_ne hr.units (de_repr gd hr.units hs B.b_repr (da_cons (D_comes_back.call hr (by decide) gd (da_cons (dv 11) da_nil)) da_nil)) (de_repr gd hr.units hs B.b_repr (da_cons (D__law_comes_back.call hr (by decide) gd (da_cons (dv 11) da_nil)) da_nil))) (dss_one (ds_ret de_bl)) dss_nil)))))
      (dss_one (ds_if (dt_eq hr.units (D__law_draw.call hr (by decide) gd (da_arg 1 (da_cons de_int da_nil))) de_int) (dss_cons (ds_asg (de_tup (da_cons (de_tup (da_cons (de_tup (da_cons de_int (da_cons de_int (da_cons (de_mulS (de_mulS (de_tup (da_cons de_int da_nil)) de_int) (dv 3)) da_nil)))) da_nil)) (da_cons (de_add (de_tup (da_cons de_int (da_cons de_int da_nil))) (de_mulS (de_tup (da_cons de_int da_nil)) (dv 3))) da_nil))) (dg_tup (n := 2) rfl (dgs_cons (dg_name (i := 12) sc_law.nd rfl (by first | exact Or.inl rfl | exact Or.inr rfl)) (dgs_cons (dg_name (i := 13) sc_law.nd rfl (by first | exact Or.inl rfl | exact Or.inr rfl)) dgs_nil))))
      (dss_cons (ds_set (i := 14) sc_law.nd rfl (by first | exact Or.inl rfl | exact Or.inr rfl) (de_add (de_mulS (de_tup (da_cons (dv 13) da_nil)) (de_add de_int (D__law_draw.call hr (by decide) gd (da_arg 1 (da_cons de_int da_nil))))) (de_tup (da_cons (de_add (de_tup (da_cons de_int (da_cons de_int da_nil))) (de_mulS (de_tup (da_cons de_int da_nil)) (dv 3))) da_nil))))
      (dss_cons (ds_setLc (i := 15) (own := [("most", 18)]) rfl sc_law.nd rfl rfl (sw_true rfl rfl rfl (by decide +kernel)) (di_tup (de_tup (da_cons de_int (da_cons de_int (da_cons de_int (da_cons de_int da_nil)))))) (blkOk_by (N := ["script", "pen", "turn", "many", "table", "free", "values", "visits", "looks", "rows", "course", "journey", "alike", "visit", "late", "some", "value", "lap", "most"]) (sc := (defScope s_law)) (own := [("most", 18)]) (by decide +kernel)) (by decide) (fun _ _ _ _ _ => (dg_name (i := 18) sc_law.nd rfl (by first | exact Or.inl rfl | exact Or.inr rfl))) (fun _ _ _ _ _ => dts_nil) (fun _ _ _ _ _ => (de_mulS (de_tup (da_cons (dv 13) da_nil)) (dv 18))))
      (dss_one (ds_if (dt_not (dt_tru (D__law_all_judged.call hr (by decide) gd (da_cons (dv 12) (da_cons (dv 3) (da_cons (de_add (dv 15) (DF.to (df_lst (da_cons (de_mulS (DF.to (df_lst (da_cons (dv 13) da_nil))) de_int) (da_cons (dv 14) da_nil))))) da_nil)))))) (dss_one (ds_ret de_bl)) dss_nil))))) dss_nil))))))))))
      (dss_one (ds_ret de_bl))), ?_⟩
    walk_at "dw"
    simp only [fI2_int]
    have laps : ∃ T : Int, 0 ≤ T ∧ T ≤ 7 ∧ T = (if (if (xs.length : Int) < 7 then (xs.length : Int) else 7) > 3 then (if (xs.length : Int) < 7 then (xs.length : Int) else 7) else 3) := ⟨_, by split <;> (try split) <;> omega, by split <;> (try split) <;> omega, rfl⟩
    obtain ⟨T, T0, T1, eT⟩ := laps
    rw [← eT]
    refine ⟨by omega, by omega, ?_⟩
    refine forW_ind (fun i δ => ∃ s2 s3 s4 s5 s6 s7 s8 s9 s10 s11 s12 s13 s14 s15 s16 s17 s18, δ = [.lenL xs.length, .pen, s2, s3, s4, s5, s6, s7, s8, s9, s10, s11, s12, s13, s14, s15, s16, s17, s18]) ⟨_, _, _, _, _, _, _, _, _, _, _, _, _, _, _, _, _, rfl⟩ ?_ ?_
    · rintro i x δ k hx ⟨s2, s3, s4, s5, s6, s7, s8, s9, s10, s11, s12, s13, s14, s15, s16, s17, s18, rfl⟩ hk
      walk_at "dw"
      refine ⟨by decide, small_nat (by decide), fun m0 m1 m2 => ?_⟩
      obtain ⟨n, hn, en⟩ : ∃ n : Nat, (n = 1 ∨ n = 2) ∧ 1 + m0 = (n : Nat) := ⟨(1 + m0).toNat, by omega, by omega⟩
      walk_at "dw"
      rw [en]
      refine ⟨n, rfl, hn, by decide, by decide, fun zs hzs hzl => ?_⟩
      have hm2 : n ≤ 2 := by omega
      refine ⟨by decide, small_nat (by decide), fun z z0 z1 => ?_⟩
      refine ⟨by omega, by omega, ?_⟩
      refine lcW_ind (fun i acc => acc.length = i ∧ ∀ v ∈ acc, VisOk v) ⟨rfl, fun _ z => (nomatch z)⟩ (fun i x acc k2 hx2 ih hk2 => ?_) (fun free ihf => ?_)
      · obtain ⟨rfl, hi⟩ := upto_get hx2
        walk_at "dw"
        refine ⟨n, rfl, hn, fun a b ns ha hb hns hb2 => ?_⟩
        refine ⟨by rw [ih.1]; exact Nat.lt_of_lt_of_le (show i < 10 by omega) (small_line (by decide)), hk2 _ ⟨by rw [List.length_append, ih.1]; rfl, fun v hv => ?_⟩⟩
        rcases List.mem_append.mp hv with z | z
        · exact ih.2 v z
        · rw [List.mem_singleton.mp z]
          exact ⟨a, b, ns, rfl, ha, hb, by omega, fun x hx => Nat.lt_of_lt_of_le (show x.natAbs < 1024 by have := hb2 x hx; omega) (by decide)⟩
      · have hfl := ihf.1
        rw [upto_len] at hfl
        have jfree : JOk (.tuple free) := JOk_vis ihf.2 (by omega)
        refine fun odd hodd => ?_
        have jodd := JOk_odd hodd
        refine ⟨small_line (by decide), Nat.zero_le _, shaped_tab hn hzs, shaped_nil_t, ?_⟩
        rw [eqv_nilT]
        cases hze : zs.isEmpty with
        | true =>
          simp only [Bool.not_true, asB_bool, Bool.false_eq_true, if_false]
          have hvl : [PyData.tuple free, odd].length ≤ 20 := by simp
          have jvals : ∀ v ∈ [PyData.tuple free, odd], JOk v := fun v hv => by
            simp only [List.mem_cons, List.not_mem_nil, or_false] at hv
            rcases hv with rfl | rfl
            · exact jfree
            · exact jodd
          refine ⟨n, rfl, hn, hzs, by omega, jvals, ?_⟩
          simp only [truD, Bool.not_true, Bool.false_eq_true, if_false]
          refine lcW_ind (fun i acc => acc.length ≤ i ∧ ∀ v ∈ acc, JOk v ∧ areB n v = true) ⟨Nat.le_refl _, fun _ z => (nomatch z)⟩ (fun i x acc k2 hx2 ih hk2 => ?_) (fun good ihg => ?_)
          · have hi := (List.getElem?_eq_some_iff.mp hx2).1
            have jx := jvals x (List.mem_of_getElem? hx2)
            walk_at "dw"
            refine ⟨n, rfl, by omega, jx.2.1, ?_⟩
            cases e : areB n x with
            | true =>
              simp only [truD, if_true]
              refine ⟨Nat.lt_of_le_of_lt ih.1 (small_line' (by omega)), hk2 _ ⟨by rw [List.length_append]; exact Nat.succ_le_succ ih.1, fun v hv => ?_⟩⟩
              rcases List.mem_append.mp hv with z | z
              · exact ih.2 v z
              · rw [List.mem_singleton.mp z]
                exact ⟨jx, e⟩
            | false =>
              simp only [truD, Bool.false_eq_true, if_false]
              exact hk2 _ ⟨Nat.le_succ_of_le ih.1, ih.2⟩
          · refine forW_ind (fun i δ => ∃ q2 q4 q5 q6 q7 q8 q9 q10 q11 q12 q13 q14 q15 q16 q17 q18, δ = [.lenL xs.length, .pen, q2, .d (.int (n : Nat)), q4, q5, q6, q7, q8, q9, q10, q11, q12, q13, q14, q15, q16, q17, q18]) ⟨_, _, _, _, _, _, _, _, _, _, _, _, _, _, _, _, rfl⟩ ?_ ?_
            · rintro i x δ k2 hx2 ⟨q2, q4, q5, q6, q7, q8, q9, q10, q11, q12, q13, q14, q15, q16, q17, q18, rfl⟩ hk2
              obtain ⟨jx, ax⟩ := ihg.2 x (List.mem_of_getElem? hx2)
              obtain ⟨vs, rfl, v3, v1000, hvis⟩ := are_form jx.2.2 ax
              obtain ⟨us, y, rfl⟩ := last_of (show vs ≠ [] from fun e => by rw [e] at v3; simp at v3)
              obtain ⟨c, e, ms, rfl, hms⟩ := hvis y (List.mem_append_right _ (List.mem_singleton.mpr rfl))
              rw [List.length_append, List.length_singleton] at v3 v1000
              obtain ⟨u0, ur, rfl⟩ : ∃ u0 ur, us = u0 :: ur := by cases us with
                | nil => simp at v3
                | cons a b => exact ⟨a, b, rfl⟩
              obtain ⟨a, b, ns, rfl, hns⟩ := hvis u0 (List.mem_append_left _ List.mem_cons_self)
              walk_at "dw"
              refine ⟨vis a b ns :: ur, vis c e ms, a, b, ns, rfl, rfl, by simp only [List.length_cons] at v1000 ⊢; omega, by omega, fun c2 e2 hc2 he2 => ?_⟩
              refine ⟨small_line (by decide), ?_⟩
              refine forW_ind (fun i δ => ∃ q2 q4 q5 q6 q7 q8 q9 q10 q11 q12 q13 q14 q15 q16 q17 q18, δ = [.lenL xs.length, .pen, q2, .d (.int (n : Nat)), q4, q5, q6, q7, q8, q9, q10, q11, q12, q13, q14, q15, q16, q17, q18]) ⟨_, _, _, _, _, _, _, _, _, _, _, _, _, _, _, _, rfl⟩ ?_ ?_
              · rintro i x δ k3 hx3 ⟨q2, q4, q5, q6, q7, q8, q9, q10, q11, q12, q13, q14, q15, q16, q17, q18, rfl⟩ hk3
                have hxe : Ends x := by
                  have hm := List.mem_of_getElem? hx3
                  simp only [List.mem_cons, List.not_mem_nil, or_false] at hm
                  rcases hm with rfl | rfl
                  · exact ⟨vis a b ns :: ur, a, b, c, e, ns, ms, rfl, rfl⟩
                  · exact ⟨vis a b ns :: ur, a, b, c2, e2, ns, ns, rfl, rfl⟩
                obtain ⟨us, a, b, c, e, ns, ms, rfl, h0⟩ := hxe
                walk_at "dw"
                refine ⟨us, a, b, c, e, ns, ms, rfl, h0, And.intro (repr_bool _) ?_⟩
                refine ⟨us, a, b, c, e, ns, ms, rfl, h0, And.intro (repr_bool _) (fNe_same _ ?_)⟩
                simp only [asB_bool, Bool.false_eq_true, if_false]
                exact hk3 _ ⟨_, _, _, _, _, _, _, _, _, _, _, _, _, _, _, _, rfl⟩
              · rintro δ ⟨q2, q4, q5, q6, q7, q8, q9, q10, q11, q12, q13, q14, q15, q16, q17, q18, rfl⟩
                exact hk2 _ ⟨_, _, _, _, _, _, _, _, _, _, _, _, _, _, _, _, rfl⟩
            · rintro δ ⟨q2, q4, q5, q6, q7, q8, q9, q10, q11, q12, q13, q14, q15, q16, q17, q18, rfl⟩
              walk_at "dw"
              refine ⟨by decide, small_nat (by decide), fun u u0 u1 => ?_⟩
              simp only [fEq_int, shaped_int, true_and, asB_bool]
              split
              · refine ⟨small_line (by decide), ?_⟩
                refine mulS1 (by decide) (by decide) ?_
                refine ⟨by simp, by omega, by omega, by simp, ?_⟩
                have ez : repD ((n : Nat) : Int) (List.replicate (Int.toNat 2) (PyData.int 0)) = (List.replicate (2 * n) (0 : Int)).map .int := by
                  rcases hn with rfl | rfl <;> rfl
                rw [ez]
                refine ⟨small_line (by decide), small_line (by decide), small_line (by decide), small_line (by decide), ?_⟩
                refine mulS1 (by omega) (by omega) ?_
                refine ⟨small_line (by simp; omega), ?_⟩
                rw [alike_vis hn]
                have ok7 : VisOk (vis 1 1 (List.replicate n 7)) := alike_ok hn (by decide)
                have ok8 : VisOk (vis 1 1 (List.replicate n 8)) := alike_ok hn (by decide)
                refine ⟨small_line (by decide), small_line (by decide), by decide, small_nat (by decide), fun g g0 g1 => ?_⟩
                simp only [fAdd_int]
                refine mulS1 (k := 2 + g) (by omega) (by omega) ?_
                refine ⟨small_line (by decide), small_line (by decide), ?_⟩
                refine mulS1 (by omega) (by omega) ?_
                refine ⟨small_line (by simp; omega), ?_⟩
                rw [alike_vis hn]
                refine ⟨small_line (by decide), ⟨small_line (by simp; omega), small_line (by decide), ?_⟩⟩
                refine lcW_ind (fun i acc => acc.length = i ∧ ∀ v ∈ acc, JOk v) ⟨rfl, fun _ z => (nomatch z)⟩ (fun i x acc k2 hx2 ih hk2 => ?_) (fun some7 ih7 => ?_)
                · have hi : i < 4 := (List.getElem?_eq_some_iff.mp hx2).1
                  obtain ⟨j, rfl, j0, j1⟩ : ∃ j : Int, x = .int j ∧ 1 ≤ j ∧ j ≤ 1001 := by
                    have hm := List.mem_of_getElem? hx2
                    simp only [List.mem_cons, List.not_mem_nil, or_false] at hm
                    rcases hm with rfl | rfl | rfl | rfl <;> exact ⟨_, rfl, by decide, by decide⟩
                  walk_at "dw"
                  refine ⟨small_line (by decide), ?_⟩
                  refine mulS1 j0 (by omega) ?_
                  refine ⟨by rw [ih.1]; exact small_line' (by omega), hk2 _ ⟨by rw [List.length_append, ih.1]; rfl, fun v hv => ?_⟩⟩
                  rcases List.mem_append.mp hv with z | z
                  · exact ih.2 v z
                  · rw [List.mem_singleton.mp z]
                    exact JOk_vis (fun v hv => by rw [(List.mem_replicate.mp hv).2]; exact ok7) (by rw [List.length_replicate]; omega)
                · have hl4 : some7.length = 4 := ih7.1
                  refine ⟨small_line (by decide), ?_⟩
                  refine mulL1 (by decide) (by decide) ?_
                  refine ⟨small_line (by decide), small_line (by omega), ?_⟩
                  refine ⟨n, rfl, hn, fun z hz => ?_, by simp, fun v hv => ?_, ?_⟩
                  · rw [List.mem_singleton.mp hz]
                    exact every_iff.mpr ⟨1, 1, _, rfl, .inr rfl, .inr rfl, zeros_order hn⟩
                  · rcases List.mem_append.mp hv with z | z
                    · exact ih7.2 v z
                    · simp only [List.mem_cons, List.not_mem_nil, or_false] at z
                      rcases z with rfl | rfl
                      · exact JOk_lst (fun v hv => by rw [(List.mem_replicate.mp hv).2]; exact ok7) (by rw [List.length_replicate]; decide)
                      · refine JOk_vis (fun v hv => ?_) (by simp; omega)
                        rcases List.mem_append.mp hv with z | z
                        · rw [(List.mem_replicate.mp z).2]; exact ok7
                        · rw [List.mem_singleton.mp z]; exact ok8
                  · simp only [truD, Bool.not_true, Bool.false_eq_true, if_false]
                    exact hk _ ⟨_, _, _, _, _, _, _, _, _, _, _, _, _, _, _, _, _, rfl⟩
              · exact hk _ ⟨_, _, _, _, _, _, _, _, _, _, _, _, _, _, _, _, _, rfl⟩
        | false =>
          simp only [Bool.not_false, asB_bool, if_true]
          refine ⟨by decide, small_nat (by decide), fun g g0 g1 => ?_⟩
          refine ⟨n, hn, hzs, fun e => by rw [e] at hze; exact absurd hze (by decide), by omega, by omega, by omega, fun ls rows hls0 hls1 hls2 hrl hrows => ?_⟩
          refine ⟨rfl, rfl, ?_⟩
          refine ⟨n, rows, hls0, hls2, by omega, rfl, hrl, fun r hr => by have := (hrows r hr).1; omega, fun vs hvs hvis => ?_⟩
          have hv : ∀ v ∈ vs, VisOk v := fun v hv => row_vis hn hrows (hvis v hv)
          have hvl : vs.length ≤ 13 := by omega
          have hv1 : 2 ≤ vs.length := by have := List.length_pos_iff.mpr hls0; omega
          obtain ⟨us, y, rfl⟩ := last_of (show vs ≠ [] from fun e => by rw [e] at hv1; simp at hv1)
          have hul : us.length + 1 ≤ 13 := by rw [List.length_append, List.length_singleton] at hvl; exact hvl
          obtain ⟨v0, hv0⟩ : ∃ v0, (us ++ [y])[0]? = some v0 := ⟨_, List.getElem?_eq_getElem (by omega)⟩
          obtain ⟨a, b, ns, rfl, _, _, hns2, hnsb⟩ := hv v0 (List.mem_of_getElem? hv0)
          refine ⟨us, y, a, b, ns, rfl, hv0, by omega, by omega, fun c e hc he => ?_⟩
          refine ⟨small_line (by decide), small_line (by decide), by decide, by decide, ?_⟩
          refine lcW_ind (fun i acc => acc.length = i ∧ ∀ v ∈ acc, JOk v) ⟨rfl, fun _ z => (nomatch z)⟩ (fun i x acc k2 hx2 ih hk2 => ?_) (fun bents ihb => ?_)
          · obtain ⟨rfl, hi⟩ := upto_get hx2
            have hi5 : i < 5 := hi
            walk_at "dw"
            refine ⟨⟨2, rfl, Nat.le_refl 2⟩, 140, Nat.le_refl _, vis_fine hv, by rw [cost_tuple]; have := vis_cost hv; omega, fun d hd => ?_⟩
            refine ⟨by rw [ih.1]; exact small_line' (by omega), hk2 _ ⟨by rw [List.length_append, ih.1]; rfl, fun v hv2 => ?_⟩⟩
            rcases List.mem_append.mp hv2 with z | z
            · exact ih.2 v z
            · rw [List.mem_singleton.mp z]
              exact JOk_bent hv (by omega) hd
          · have hb5 : bents.length = 5 := ihb.1
            refine ⟨small_line (by omega), ?_⟩
            have hvl : (PyData.tuple free :: odd :: .tuple (us ++ [y]) :: .tuple (cutD (us ++ [y]) (some 1) none) :: .tuple (us ++ [vis c e ns]) :: bents).length ≤ 20 := by simp only [List.length_cons]; omega
            have jvals : ∀ v ∈ PyData.tuple free :: odd :: .tuple (us ++ [y]) :: .tuple (cutD (us ++ [y]) (some 1) none) :: .tuple (us ++ [vis c e ns]) :: bents, JOk v := fun v hv2 => by
              rcases List.mem_cons.mp hv2 with rfl | hv2
              · exact jfree
              rcases List.mem_cons.mp hv2 with rfl | hv2
              · exact jodd
              rcases List.mem_cons.mp hv2 with rfl | hv2
              · exact JOk_vis hv (by omega)
              rcases List.mem_cons.mp hv2 with rfl | hv2
              · have s1 := cutD_sub (us ++ [y]) (some 1) none
                exact JOk_vis (fun v hv3 => hv v (s1.subset hv3)) (by have := s1.length_le; omega)
              rcases List.mem_cons.mp hv2 with rfl | hv2
              · refine JOk_vis (fun v hv3 => ?_) (by rw [List.length_append, List.length_singleton]; omega)
                rcases List.mem_append.mp hv3 with z | z
                · exact hv v (List.mem_append_left _ z)
                · rw [List.mem_singleton.mp z]
                  exact ⟨c, e, ns, rfl, hc, he, hns2, hnsb⟩
              · exact ihb.2 v hv2
            refine ⟨n, rfl, hn, hzs, by omega, jvals, ?_⟩
            simp only [truD, Bool.not_true, Bool.false_eq_true, if_false]
            refine lcW_ind (fun i acc => acc.length ≤ i ∧ ∀ v ∈ acc, JOk v ∧ areB n v = true) ⟨Nat.le_refl _, fun _ z => (nomatch z)⟩ (fun i x acc k2 hx2 ih hk2 => ?_) (fun good ihg => ?_)
            · have hi := (List.getElem?_eq_some_iff.mp hx2).1
              have jx := jvals x (List.mem_of_getElem? hx2)
              walk_at "dw"
              refine ⟨n, rfl, by omega, jx.2.1, ?_⟩
              cases e : areB n x with
              | true =>
                simp only [truD, if_true]
                refine ⟨Nat.lt_of_le_of_lt ih.1 (small_line' (by omega)), hk2 _ ⟨by rw [List.length_append]; exact Nat.succ_le_succ ih.1, fun v hv => ?_⟩⟩
                rcases List.mem_append.mp hv with z | z
                · exact ih.2 v z
                · rw [List.mem_singleton.mp z]
                  exact ⟨jx, e⟩
              | false =>
                simp only [truD, Bool.false_eq_true, if_false]
                exact hk2 _ ⟨Nat.le_succ_of_le ih.1, ih.2⟩
            · refine forW_ind (fun i δ => ∃ q2 q4 q5 q6 q7 q8 q9 q10 q11 q12 q13 q14 q15 q16 q17 q18, δ = [.lenL xs.length, .pen, q2, .d (.int (n : Nat)), q4, q5, q6, q7, q8, q9, q10, q11, q12, q13, q14, q15, q16, q17, q18]) ⟨_, _, _, _, _, _, _, _, _, _, _, _, _, _, _, _, rfl⟩ ?_ ?_
              · rintro i x δ k2 hx2 ⟨q2, q4, q5, q6, q7, q8, q9, q10, q11, q12, q13, q14, q15, q16, q17, q18, rfl⟩ hk2
                obtain ⟨jx, ax⟩ := ihg.2 x (List.mem_of_getElem? hx2)
                obtain ⟨vs, rfl, v3, v1000, hvis⟩ := are_form jx.2.2 ax
                obtain ⟨us, y, rfl⟩ := last_of (show vs ≠ [] from fun e => by rw [e] at v3; simp at v3)
                obtain ⟨c, e, ms, rfl, hms⟩ := hvis y (List.mem_append_right _ (List.mem_singleton.mpr rfl))
                rw [List.length_append, List.length_singleton] at v3 v1000
                obtain ⟨u0, ur, rfl⟩ : ∃ u0 ur, us = u0 :: ur := by cases us with
                  | nil => simp at v3
                  | cons a b => exact ⟨a, b, rfl⟩
                obtain ⟨a, b, ns, rfl, hns⟩ := hvis u0 (List.mem_append_left _ List.mem_cons_self)
                walk_at "dw"
                refine ⟨vis a b ns :: ur, vis c e ms, a, b, ns, rfl, rfl, by simp only [List.length_cons] at v1000 ⊢; omega, by omega, fun c2 e2 hc2 he2 => ?_⟩
                refine ⟨small_line (by decide), ?_⟩
                refine forW_ind (fun i δ => ∃ q2 q4 q5 q6 q7 q8 q9 q10 q11 q12 q13 q14 q15 q16 q17 q18, δ = [.lenL xs.length, .pen, q2, .d (.int (n : Nat)), q4, q5, q6, q7, q8, q9, q10, q11, q12, q13, q14, q15, q16, q17, q18]) ⟨_, _, _, _, _, _, _, _, _, _, _, _, _, _, _, _, rfl⟩ ?_ ?_
                · rintro i x δ k3 hx3 ⟨q2, q4, q5, q6, q7, q8, q9, q10, q11, q12, q13, q14, q15, q16, q17, q18, rfl⟩ hk3
                  have hxe : Ends x := by
                    have hm := List.mem_of_getElem? hx3
                    simp only [List.mem_cons, List.not_mem_nil, or_false] at hm
                    rcases hm with rfl | rfl
                    · exact ⟨vis a b ns :: ur, a, b, c, e, ns, ms, rfl, rfl⟩
                    · exact ⟨vis a b ns :: ur, a, b, c2, e2, ns, ns, rfl, rfl⟩
                  obtain ⟨us, a, b, c, e, ns, ms, rfl, h0⟩ := hxe
                  walk_at "dw"
                  refine ⟨us, a, b, c, e, ns, ms, rfl, h0, And.intro (repr_bool _) ?_⟩
                  refine ⟨us, a, b, c, e, ns, ms, rfl, h0, And.intro (repr_bool _) (fNe_same _ ?_)⟩
                  simp only [asB_bool, Bool.false_eq_true, if_false]
                  exact hk3 _ ⟨_, _, _, _, _, _, _, _, _, _, _, _, _, _, _, _, rfl⟩
                · rintro δ ⟨q2, q4, q5, q6, q7, q8, q9, q10, q11, q12, q13, q14, q15, q16, q17, q18, rfl⟩
                  exact hk2 _ ⟨_, _, _, _, _, _, _, _, _, _, _, _, _, _, _, _, rfl⟩
              · rintro δ ⟨q2, q4, q5, q6, q7, q8, q9, q10, q11, q12, q13, q14, q15, q16, q17, q18, rfl⟩
                walk_at "dw"
                refine ⟨by decide, small_nat (by decide), fun u u0 u1 => ?_⟩
                simp only [fEq_int, shaped_int, true_and, asB_bool]
                split
                · refine ⟨small_line (by decide), ?_⟩
                  refine mulS1 (by decide) (by decide) ?_
                  refine ⟨by simp, by omega, by omega, by simp, ?_⟩
                  have ez : repD ((n : Nat) : Int) (List.replicate (Int.toNat 2) (PyData.int 0)) = (List.replicate (2 * n) (0 : Int)).map .int := by
                    rcases hn with rfl | rfl <;> rfl
                  rw [ez]
                  refine ⟨small_line (by decide), small_line (by decide), small_line (by decide), small_line (by decide), ?_⟩
                  refine mulS1 (by omega) (by omega) ?_
                  refine ⟨small_line (by simp; omega), ?_⟩
                  rw [alike_vis hn]
                  have ok7 : VisOk (vis 1 1 (List.replicate n 7)) := alike_ok hn (by decide)
                  have ok8 : VisOk (vis 1 1 (List.replicate n 8)) := alike_ok hn (by decide)
                  refine ⟨small_line (by decide), small_line (by decide), by decide, small_nat (by decide), fun g g0 g1 => ?_⟩
                  simp only [fAdd_int]
                  refine mulS1 (k := 2 + g) (by omega) (by omega) ?_
                  refine ⟨small_line (by decide), small_line (by decide), ?_⟩
                  refine mulS1 (by omega) (by omega) ?_
                  refine ⟨small_line (by simp; omega), ?_⟩
                  rw [alike_vis hn]
                  refine ⟨small_line (by decide), ⟨small_line (by simp; omega), small_line (by decide), ?_⟩⟩
                  refine lcW_ind (fun i acc => acc.length = i ∧ ∀ v ∈ acc, JOk v) ⟨rfl, fun _ z => (nomatch z)⟩ (fun i x acc k2 hx2 ih hk2 => ?_) (fun some7 ih7 => ?_)
                  · have hi : i < 4 := (List.getElem?_eq_some_iff.mp hx2).1
                    obtain ⟨j, rfl, j0, j1⟩ : ∃ j : Int, x = .int j ∧ 1 ≤ j ∧ j ≤ 1001 := by
                      have hm := List.mem_of_getElem? hx2
                      simp only [List.mem_cons, List.not_mem_nil, or_false] at hm
                      rcases hm with rfl | rfl | rfl | rfl <;> exact ⟨_, rfl, by decide, by decide⟩
                    walk_at "dw"
                    refine ⟨small_line (by decide), ?_⟩
                    refine mulS1 j0 (by omega) ?_
                    refine ⟨by rw [ih.1]; exact small_line' (by omega), hk2 _ ⟨by rw [List.length_append, ih.1]; rfl, fun v hv => ?_⟩⟩
                    rcases List.mem_append.mp hv with z | z
                    · exact ih.2 v z
                    · rw [List.mem_singleton.mp z]
                      exact JOk_vis (fun v hv => by rw [(List.mem_replicate.mp hv).2]; exact ok7) (by rw [List.length_replicate]; omega)
                  · have hl4 : some7.length = 4 := ih7.1
                    refine ⟨small_line (by decide), ?_⟩
                    refine mulL1 (by decide) (by decide) ?_
                    refine ⟨small_line (by decide), small_line (by omega), ?_⟩
                    refine ⟨n, rfl, hn, fun z hz => ?_, by simp, fun v hv => ?_, ?_⟩
                    · rw [List.mem_singleton.mp hz]
                      exact every_iff.mpr ⟨1, 1, _, rfl, .inr rfl, .inr rfl, zeros_order hn⟩
                    · rcases List.mem_append.mp hv with z | z
                      · exact ih7.2 v z
                      · simp only [List.mem_cons, List.not_mem_nil, or_false] at z
                        rcases z with rfl | rfl
                        · exact JOk_lst (fun v hv => by rw [(List.mem_replicate.mp hv).2]; exact ok7) (by rw [List.length_replicate]; decide)
                        · refine JOk_vis (fun v hv => ?_) (by simp; omega)
                          rcases List.mem_append.mp hv with z | z
                          · rw [(List.mem_replicate.mp z).2]; exact ok7
                          · rw [List.mem_singleton.mp z]; exact ok8
                    · simp only [truD, Bool.not_true, Bool.false_eq_true, if_false]
                      exact hk _ ⟨_, _, _, _, _, _, _, _, _, _, _, _, _, _, _, _, _, rfl⟩
                · exact hk _ ⟨_, _, _, _, _, _, _, _, _, _, _, _, _, _, _, _, _, rfl⟩
    · rintro δ ⟨s2, s3, s4, s5, s6, s7, s8, s9, s10, s11, s12, s13, s14, s15, s16, s17, s18, rfl⟩
      walk_at "dw"
  obtain ⟨t, wb, R, hw⟩ := R
  refine ⟨_, pss_cons (ps_set (i := 1) sc_law.nd rfl (by first | exact Or.inl rfl | exact Or.inr rfl) (pe_callG Fp (hr.mono (by decide)) gd rfl hmp hkp hbp .nil pass0 (pa_cons (pe_var (i := 0) rfl (by first | exact Or.inl rfl | exact Or.inr (Or.inl rfl) | exact Or.inr (Or.inr rfl))) pa_nil))) R.pe, ?_⟩
  refine ⟨_, rfl, ?_⟩
  exact ⟨a, xs, rfl, spLawL.sq hS, fun p g ns' H' h1 sm hp hg ne => pen_runL R.dt (by decide) h1 sm hS hp hg ne q hw⟩

end
end DL
namespace DL
open PySem PySem.Spec PyProof.Rows L2
theorem all_mk {l : PySem.W.OpenLaw} {w : World} {K : PySem.W.Frag} {h : Heap} {mg : Str → Option Value} {fa f1 f2 f3 f4 f5 f6 f7 f8 f9 f10 f11 f12 f13 f14 f15 f16 f17 f18 f19 f20 f21 f22 f23 f24 f25 f26 f27 f28 f29 f30 f31 f32 f33 f34 f35 f36 f37 : Addr} (X : K.In h) (G : h.Ns mainGlobals mg) (hfa : mg "law" = some (.ref fa))
    {od1 an1 : Option Addr} {sl1 : Array (Option Value)} {oc1 kV1 dc1 pm1 cd1 ct1 : Value}
    (a1 : PySem.W.nsIn K mainGlobals "is_number" = some (some (.ref f1))) (l1 : K.lookup f1 = some ⟨oc1, od1, .func (PySem.W.fnOf "is_number" "is_number" (defArgs s_is_number) (defBody s_is_number) (defScope s_is_number) .none kV1 dc1 pm1 an1 cd1 ct1), sl1⟩) (c1 : PySem.W.codeIn K cd1 "is_number" = true) (k1 : PySem.W.keepIn K (.ref f1) = true)
    {od2 an2 : Option Addr} {sl2 : Array (Option Value)} {oc2 kV2 dc2 pm2 cd2 ct2 : Value}
    (a2 : PySem.W.nsIn K mainGlobals "order_of" = some (some (.ref f2))) (l2 : K.lookup f2 = some ⟨oc2, od2, .func (PySem.W.fnOf "order_of" "order_of" (defArgs s_order_of) (defBody s_order_of) (defScope s_order_of) .none kV2 dc2 pm2 an2 cd2 ct2), sl2⟩) (c2 : PySem.W.codeIn K cd2 "order_of" = true) (k2 : PySem.W.keepIn K (.ref f2) = true)
    {od3 an3 : Option Addr} {sl3 : Array (Option Value)} {oc3 kV3 dc3 pm3 cd3 ct3 : Value}
    (a3 : PySem.W.nsIn K mainGlobals "comes_back" = some (some (.ref f3))) (l3 : K.lookup f3 = some ⟨oc3, od3, .func (PySem.W.fnOf "comes_back" "comes_back" (defArgs s_comes_back) (defBody s_comes_back) (defScope s_comes_back) .none kV3 dc3 pm3 an3 cd3 ct3), sl3⟩) (c3 : PySem.W.codeIn K cd3 "comes_back" = true) (k3 : PySem.W.keepIn K (.ref f3) = true)
    {od4 an4 : Option Addr} {sl4 : Array (Option Value)} {oc4 kV4 dc4 pm4 cd4 ct4 : Value}
    (a4 : PySem.W.nsIn K mainGlobals "_law_fresh" = some (some (.ref f4))) (l4 : K.lookup f4 = some ⟨oc4, od4, .func (PySem.W.fnOf "_law_fresh" "_law_fresh" (defArgs s__law_fresh) (defBody s__law_fresh) (defScope s__law_fresh) .none kV4 dc4 pm4 an4 cd4 ct4), sl4⟩) (c4 : PySem.W.codeIn K cd4 "_law_fresh" = true) (k4 : PySem.W.keepIn K (.ref f4) = true)
    {od5 an5 : Option Addr} {sl5 : Array (Option Value)} {oc5 kV5 dc5 pm5 cd5 ct5 : Value}
    (a5 : PySem.W.nsIn K mainGlobals "_law_ranks" = some (some (.ref f5))) (l5 : K.lookup f5 = some ⟨oc5, od5, .func (PySem.W.fnOf "_law_ranks" "_law_ranks" (defArgs s__law_ranks) (defBody s__law_ranks) (defScope s__law_ranks) .none kV5 dc5 pm5 an5 cd5 ct5), sl5⟩) (c5 : PySem.W.codeIn K cd5 "_law_ranks" = true) (k5 : PySem.W.keepIn K (.ref f5) = true)
    {od6 an6 : Option Addr} {sl6 : Array (Option Value)} {oc6 kV6 dc6 pm6 cd6 ct6 : Value}
    (a6 : PySem.W.nsIn K mainGlobals "_law_half" = some (some (.ref f6))) (l6 : K.lookup f6 = some ⟨oc6, od6, .func (PySem.W.fnOf "_law_half" "_law_half" (defArgs s__law_half) (defBody s__law_half) (defScope s__law_half) .none kV6 dc6 pm6 an6 cd6 ct6), sl6⟩) (c6 : PySem.W.codeIn K cd6 "_law_half" = true) (k6 : PySem.W.keepIn K (.ref f6) = true)
    {od7 an7 : Option Addr} {sl7 : Array (Option Value)} {oc7 kV7 dc7 pm7 cd7 ct7 : Value}
    (a7 : PySem.W.nsIn K mainGlobals "_law_whole" = some (some (.ref f7))) (l7 : K.lookup f7 = some ⟨oc7, od7, .func (PySem.W.fnOf "_law_whole" "_law_whole" (defArgs s__law_whole) (defBody s__law_whole) (defScope s__law_whole) .none kV7 dc7 pm7 an7 cd7 ct7), sl7⟩) (c7 : PySem.W.codeIn K cd7 "_law_whole" = true) (k7 : PySem.W.keepIn K (.ref f7) = true)
    {od8 an8 : Option Addr} {sl8 : Array (Option Value)} {oc8 kV8 dc8 pm8 cd8 ct8 : Value}
    (a8 : PySem.W.nsIn K mainGlobals "_law_visits_of" = some (some (.ref f8))) (l8 : K.lookup f8 = some ⟨oc8, od8, .func (PySem.W.fnOf "_law_visits_of" "_law_visits_of" (defArgs s__law_visits_of) (defBody s__law_visits_of) (defScope s__law_visits_of) .none kV8 dc8 pm8 an8 cd8 ct8), sl8⟩) (c8 : PySem.W.codeIn K cd8 "_law_visits_of" = true) (k8 : PySem.W.keepIn K (.ref f8) = true)
    {od9 an9 : Option Addr} {sl9 : Array (Option Value)} {oc9 kV9 dc9 pm9 cd9 ct9 : Value}
    (a9 : PySem.W.nsIn K mainGlobals "_law_comes_back" = some (some (.ref f9))) (l9 : K.lookup f9 = some ⟨oc9, od9, .func (PySem.W.fnOf "_law_comes_back" "_law_comes_back" (defArgs s__law_comes_back) (defBody s__law_comes_back) (defScope s__law_comes_back) .none kV9 dc9 pm9 an9 cd9 ct9), sl9⟩) (c9 : PySem.W.codeIn K cd9 "_law_comes_back" = true) (k9 : PySem.W.keepIn K (.ref f9) = true)
    {od10 an10 : Option Addr} {sl10 : Array (Option Value)} {oc10 kV10 dc10 pm10 cd10 ct10 : Value}
    (a10 : PySem.W.nsIn K mainGlobals "is_standing" = some (some (.ref f10))) (l10 : K.lookup f10 = some ⟨oc10, od10, .func (PySem.W.fnOf "is_standing" "is_standing" (defArgs s_is_standing) (defBody s_is_standing) (defScope s_is_standing) .none kV10 dc10 pm10 an10 cd10 ct10), sl10⟩) (c10 : PySem.W.codeIn K cd10 "is_standing" = true) (k10 : PySem.W.keepIn K (.ref f10) = true)
    {od11 an11 : Option Addr} {sl11 : Array (Option Value)} {oc11 kV11 dc11 pm11 cd11 ct11 : Value}
    (a11 : PySem.W.nsIn K mainGlobals "look_between" = some (some (.ref f11))) (l11 : K.lookup f11 = some ⟨oc11, od11, .func (PySem.W.fnOf "look_between" "look_between" (defArgs s_look_between) (defBody s_look_between) (defScope s_look_between) .none kV11 dc11 pm11 an11 cd11 ct11), sl11⟩) (c11 : PySem.W.codeIn K cd11 "look_between" = true) (k11 : PySem.W.keepIn K (.ref f11) = true)
    {od12 an12 : Option Addr} {sl12 : Array (Option Value)} {oc12 kV12 dc12 pm12 cd12 ct12 : Value}
    (a12 : PySem.W.nsIn K mainGlobals "_law_draw" = some (some (.ref f12))) (l12 : K.lookup f12 = some ⟨oc12, od12, .func (PySem.W.fnOf "_law_draw" "_law_draw" (defArgs s__law_draw) (defBody s__law_draw) (defScope s__law_draw) .none kV12 dc12 pm12 an12 cd12 ct12), sl12⟩) (c12 : PySem.W.codeIn K cd12 "_law_draw" = true) (k12 : PySem.W.keepIn K (.ref f12) = true)
    {od13 an13 : Option Addr} {sl13 : Array (Option Value)} {oc13 kV13 dc13 pm13 cd13 ct13 : Value}
    (a13 : PySem.W.nsIn K mainGlobals "_law_is_node" = some (some (.ref f13))) (l13 : K.lookup f13 = some ⟨oc13, od13, .func (PySem.W.fnOf "_law_is_node" "_law_is_node" (defArgs s__law_is_node) (defBody s__law_is_node) (defScope s__law_is_node) .none kV13 dc13 pm13 an13 cd13 ct13), sl13⟩) (c13 : PySem.W.codeIn K cd13 "_law_is_node" = true) (k13 : PySem.W.keepIn K (.ref f13) = true)
    {od14 an14 : Option Addr} {sl14 : Array (Option Value)} {oc14 kV14 dc14 pm14 cd14 ct14 : Value}
    (a14 : PySem.W.nsIn K mainGlobals "_law_hops_on" = some (some (.ref f14))) (l14 : K.lookup f14 = some ⟨oc14, od14, .func (PySem.W.fnOf "_law_hops_on" "_law_hops_on" (defArgs s__law_hops_on) (defBody s__law_hops_on) (defScope s__law_hops_on) .none kV14 dc14 pm14 an14 cd14 ct14), sl14⟩) (c14 : PySem.W.codeIn K cd14 "_law_hops_on" = true) (k14 : PySem.W.keepIn K (.ref f14) = true)
    {od15 an15 : Option Addr} {sl15 : Array (Option Value)} {oc15 kV15 dc15 pm15 cd15 ct15 : Value}
    (a15 : PySem.W.nsIn K mainGlobals "is_node" = some (some (.ref f15))) (l15 : K.lookup f15 = some ⟨oc15, od15, .func (PySem.W.fnOf "is_node" "is_node" (defArgs s_is_node) (defBody s_is_node) (defScope s_is_node) .none kV15 dc15 pm15 an15 cd15 ct15), sl15⟩) (c15 : PySem.W.codeIn K cd15 "is_node" = true) (k15 : PySem.W.keepIn K (.ref f15) = true)
    {od16 an16 : Option Addr} {sl16 : Array (Option Value)} {oc16 kV16 dc16 pm16 cd16 ct16 : Value}
    (a16 : PySem.W.nsIn K mainGlobals "hops_of" = some (some (.ref f16))) (l16 : K.lookup f16 = some ⟨oc16, od16, .func (PySem.W.fnOf "hops_of" "hops_of" (defArgs s_hops_of) (defBody s_hops_of) (defScope s_hops_of) .none kV16 dc16 pm16 an16 cd16 ct16), sl16⟩) (c16 : PySem.W.codeIn K cd16 "hops_of" = true) (k16 : PySem.W.keepIn K (.ref f16) = true)
    {od17 an17 : Option Addr} {sl17 : Array (Option Value)} {oc17 kV17 dc17 pm17 cd17 ct17 : Value}
    (a17 : PySem.W.nsIn K mainGlobals "_law_one_of" = some (some (.ref f17))) (l17 : K.lookup f17 = some ⟨oc17, od17, .func (PySem.W.fnOf "_law_one_of" "_law_one_of" (defArgs s__law_one_of) (defBody s__law_one_of) (defScope s__law_one_of) .none kV17 dc17 pm17 an17 cd17 ct17), sl17⟩) (c17 : PySem.W.codeIn K cd17 "_law_one_of" = true) (k17 : PySem.W.keepIn K (.ref f17) = true)
    {od18 an18 : Option Addr} {sl18 : Array (Option Value)} {oc18 kV18 dc18 pm18 cd18 ct18 : Value}
    (a18 : PySem.W.nsIn K mainGlobals "_law_some_order" = some (some (.ref f18))) (l18 : K.lookup f18 = some ⟨oc18, od18, .func (PySem.W.fnOf "_law_some_order" "_law_some_order" (defArgs s__law_some_order) (defBody s__law_some_order) (defScope s__law_some_order) .none kV18 dc18 pm18 an18 cd18 ct18), sl18⟩) (c18 : PySem.W.codeIn K cd18 "_law_some_order" = true) (k18 : PySem.W.keepIn K (.ref f18) = true)
    {od19 an19 : Option Addr} {sl19 : Array (Option Value)} {oc19 kV19 dc19 pm19 cd19 ct19 : Value}
    (a19 : PySem.W.nsIn K mainGlobals "_law_beside" = some (some (.ref f19))) (l19 : K.lookup f19 = some ⟨oc19, od19, .func (PySem.W.fnOf "_law_beside" "_law_beside" (defArgs s__law_beside) (defBody s__law_beside) (defScope s__law_beside) .none kV19 dc19 pm19 an19 cd19 ct19), sl19⟩) (c19 : PySem.W.codeIn K cd19 "_law_beside" = true) (k19 : PySem.W.keepIn K (.ref f19) = true)
    {od20 an20 : Option Addr} {sl20 : Array (Option Value)} {oc20 kV20 dc20 pm20 cd20 ct20 : Value}
    (a20 : PySem.W.nsIn K mainGlobals "_law_is_visit" = some (some (.ref f20))) (l20 : K.lookup f20 = some ⟨oc20, od20, .func (PySem.W.fnOf "_law_is_visit" "_law_is_visit" (defArgs s__law_is_visit) (defBody s__law_is_visit) (defScope s__law_is_visit) .none kV20 dc20 pm20 an20 cd20 ct20), sl20⟩) (c20 : PySem.W.codeIn K cd20 "_law_is_visit" = true) (k20 : PySem.W.keepIn K (.ref f20) = true)
    {od21 an21 : Option Addr} {sl21 : Array (Option Value)} {oc21 kV21 dc21 pm21 cd21 ct21 : Value}
    (a21 : PySem.W.nsIn K mainGlobals "_law_visit_not" = some (some (.ref f21))) (l21 : K.lookup f21 = some ⟨oc21, od21, .func (PySem.W.fnOf "_law_visit_not" "_law_visit_not" (defArgs s__law_visit_not) (defBody s__law_visit_not) (defScope s__law_visit_not) .none kV21 dc21 pm21 an21 cd21 ct21), sl21⟩) (c21 : PySem.W.codeIn K cd21 "_law_visit_not" = true) (k21 : PySem.W.keepIn K (.ref f21) = true)
    {od22 an22 : Option Addr} {sl22 : Array (Option Value)} {oc22 kV22 dc22 pm22 cd22 ct22 : Value}
    (a22 : PySem.W.nsIn K mainGlobals "_law_some_visit" = some (some (.ref f22))) (l22 : K.lookup f22 = some ⟨oc22, od22, .func (PySem.W.fnOf "_law_some_visit" "_law_some_visit" (defArgs s__law_some_visit) (defBody s__law_some_visit) (defScope s__law_some_visit) .none kV22 dc22 pm22 an22 cd22 ct22), sl22⟩) (c22 : PySem.W.codeIn K cd22 "_law_some_visit" = true) (k22 : PySem.W.keepIn K (.ref f22) = true)
    {od23 an23 : Option Addr} {sl23 : Array (Option Value)} {oc23 kV23 dc23 pm23 cd23 ct23 : Value}
    (a23 : PySem.W.nsIn K mainGlobals "_law_homed" = some (some (.ref f23))) (l23 : K.lookup f23 = some ⟨oc23, od23, .func (PySem.W.fnOf "_law_homed" "_law_homed" (defArgs s__law_homed) (defBody s__law_homed) (defScope s__law_homed) .none kV23 dc23 pm23 an23 cd23 ct23), sl23⟩) (c23 : PySem.W.codeIn K cd23 "_law_homed" = true) (k23 : PySem.W.keepIn K (.ref f23) = true)
    {od24 an24 : Option Addr} {sl24 : Array (Option Value)} {oc24 kV24 dc24 pm24 cd24 ct24 : Value}
    (a24 : PySem.W.nsIn K mainGlobals "is_visit" = some (some (.ref f24))) (l24 : K.lookup f24 = some ⟨oc24, od24, .func (PySem.W.fnOf "is_visit" "is_visit" (defArgs s_is_visit) (defBody s_is_visit) (defScope s_is_visit) .none kV24 dc24 pm24 an24 cd24 ct24), sl24⟩) (c24 : PySem.W.codeIn K cd24 "is_visit" = true) (k24 : PySem.W.keepIn K (.ref f24) = true)
    {od25 an25 : Option Addr} {sl25 : Array (Option Value)} {oc25 kV25 dc25 pm25 cd25 ct25 : Value}
    (a25 : PySem.W.nsIn K mainGlobals "_law_some_look" = some (some (.ref f25))) (l25 : K.lookup f25 = some ⟨oc25, od25, .func (PySem.W.fnOf "_law_some_look" "_law_some_look" (defArgs s__law_some_look) (defBody s__law_some_look) (defScope s__law_some_look) .none kV25 dc25 pm25 an25 cd25 ct25), sl25⟩) (c25 : PySem.W.codeIn K cd25 "_law_some_look" = true) (k25 : PySem.W.keepIn K (.ref f25) = true)
    {od26 an26 : Option Addr} {sl26 : Array (Option Value)} {oc26 kV26 dc26 pm26 cd26 ct26 : Value}
    (a26 : PySem.W.nsIn K mainGlobals "_law_odd" = some (some (.ref f26))) (l26 : K.lookup f26 = some ⟨oc26, od26, .func (PySem.W.fnOf "_law_odd" "_law_odd" (defArgs s__law_odd) (defBody s__law_odd) (defScope s__law_odd) .none kV26 dc26 pm26 an26 cd26 ct26), sl26⟩) (c26 : PySem.W.codeIn K cd26 "_law_odd" = true) (k26 : PySem.W.keepIn K (.ref f26) = true)
    {od27 an27 : Option Addr} {sl27 : Array (Option Value)} {oc27 kV27 dc27 pm27 cd27 ct27 : Value}
    (a27 : PySem.W.nsIn K mainGlobals "_law_course" = some (some (.ref f27))) (l27 : K.lookup f27 = some ⟨oc27, od27, .func (PySem.W.fnOf "_law_course" "_law_course" (defArgs s__law_course) (defBody s__law_course) (defScope s__law_course) .none kV27 dc27 pm27 an27 cd27 ct27), sl27⟩) (c27 : PySem.W.codeIn K cd27 "_law_course" = true) (k27 : PySem.W.keepIn K (.ref f27) = true)
    {od28 an28 : Option Addr} {sl28 : Array (Option Value)} {oc28 kV28 dc28 pm28 cd28 ct28 : Value}
    (a28 : PySem.W.nsIn K mainGlobals "_law_are_visits" = some (some (.ref f28))) (l28 : K.lookup f28 = some ⟨oc28, od28, .func (PySem.W.fnOf "_law_are_visits" "_law_are_visits" (defArgs s__law_are_visits) (defBody s__law_are_visits) (defScope s__law_are_visits) .none kV28 dc28 pm28 an28 cd28 ct28), sl28⟩) (c28 : PySem.W.codeIn K cd28 "_law_are_visits" = true) (k28 : PySem.W.keepIn K (.ref f28) = true)
    {od29 an29 : Option Addr} {sl29 : Array (Option Value)} {oc29 kV29 dc29 pm29 cd29 ct29 : Value}
    (a29 : PySem.W.nsIn K mainGlobals "is_journey" = some (some (.ref f29))) (l29 : K.lookup f29 = some ⟨oc29, od29, .func (PySem.W.fnOf "is_journey" "is_journey" (defArgs s_is_journey) (defBody s_is_journey) (defScope s_is_journey) .none kV29 dc29 pm29 an29 cd29 ct29), sl29⟩) (c29 : PySem.W.codeIn K cd29 "is_journey" = true) (k29 : PySem.W.keepIn K (.ref f29) = true)
    {od30 an30 : Option Addr} {sl30 : Array (Option Value)} {oc30 kV30 dc30 pm30 cd30 ct30 : Value}
    (a30 : PySem.W.nsIn K mainGlobals "_law_some_table" = some (some (.ref f30))) (l30 : K.lookup f30 = some ⟨oc30, od30, .func (PySem.W.fnOf "_law_some_table" "_law_some_table" (defArgs s__law_some_table) (defBody s__law_some_table) (defScope s__law_some_table) .none kV30 dc30 pm30 an30 cd30 ct30), sl30⟩) (c30 : PySem.W.codeIn K cd30 "_law_some_table" = true) (k30 : PySem.W.keepIn K (.ref f30) = true)
    {od31 an31 : Option Addr} {sl31 : Array (Option Value)} {oc31 kV31 dc31 pm31 cd31 ct31 : Value}
    (a31 : PySem.W.nsIn K mainGlobals "_law_falling" = some (some (.ref f31))) (l31 : K.lookup f31 = some ⟨oc31, od31, .func (PySem.W.fnOf "_law_falling" "_law_falling" (defArgs s__law_falling) (defBody s__law_falling) (defScope s__law_falling) .none kV31 dc31 pm31 an31 cd31 ct31), sl31⟩) (c31 : PySem.W.codeIn K cd31 "_law_falling" = true) (k31 : PySem.W.keepIn K (.ref f31) = true)
    {od32 an32 : Option Addr} {sl32 : Array (Option Value)} {oc32 kV32 dc32 pm32 cd32 ct32 : Value}
    (a32 : PySem.W.nsIn K mainGlobals "_law_due" = some (some (.ref f32))) (l32 : K.lookup f32 = some ⟨oc32, od32, .func (PySem.W.fnOf "_law_due" "_law_due" (defArgs s__law_due) (defBody s__law_due) (defScope s__law_due) .none kV32 dc32 pm32 an32 cd32 ct32), sl32⟩) (c32 : PySem.W.codeIn K cd32 "_law_due" = true) (k32 : PySem.W.keepIn K (.ref f32) = true)
    {od33 an33 : Option Addr} {sl33 : Array (Option Value)} {oc33 kV33 dc33 pm33 cd33 ct33 : Value}
    (a33 : PySem.W.nsIn K mainGlobals "_law_any_table" = some (some (.ref f33))) (l33 : K.lookup f33 = some ⟨oc33, od33, .func (PySem.W.fnOf "_law_any_table" "_law_any_table" (defArgs s__law_any_table) (defBody s__law_any_table) (defScope s__law_any_table) .none kV33 dc33 pm33 an33 cd33 ct33), sl33⟩) (c33 : PySem.W.codeIn K cd33 "_law_any_table" = true) (k33 : PySem.W.keepIn K (.ref f33) = true)
    {od34 an34 : Option Addr} {sl34 : Array (Option Value)} {oc34 kV34 dc34 pm34 cd34 ct34 : Value}
    (a34 : PySem.W.nsIn K mainGlobals "_law_all_judged" = some (some (.ref f34))) (l34 : K.lookup f34 = some ⟨oc34, od34, .func (PySem.W.fnOf "_law_all_judged" "_law_all_judged" (defArgs s__law_all_judged) (defBody s__law_all_judged) (defScope s__law_all_judged) .none kV34 dc34 pm34 an34 cd34 ct34), sl34⟩) (c34 : PySem.W.codeIn K cd34 "_law_all_judged" = true) (k34 : PySem.W.keepIn K (.ref f34) = true)
    {od35 an35 : Option Addr} {sl35 : Array (Option Value)} {oc35 kV35 dc35 pm35 cd35 ct35 : Value}
    (a35 : PySem.W.nsIn K mainGlobals "_law_bent" = some (some (.ref f35))) (l35 : K.lookup f35 = some ⟨oc35, od35, .func (PySem.W.fnOf "_law_bent" "_law_bent" (defArgs s__law_bent) (defBody s__law_bent) (defScope s__law_bent) .none kV35 dc35 pm35 an35 cd35 ct35), sl35⟩) (c35 : PySem.W.codeIn K cd35 "_law_bent" = true) (k35 : PySem.W.keepIn K (.ref f35) = true)
    {od36 an36 : Option Addr} {sl36 : Array (Option Value)} {oc36 kV36 dc36 pm36 cd36 ct36 : Value}
    (a36 : PySem.W.nsIn K mainGlobals "_law_pen" = some (some (.ref f36))) (l36 : K.lookup f36 = some ⟨oc36, od36, .func (PySem.W.fnOf "_law_pen" "_law_pen" (defArgs s__law_pen) (defBody s__law_pen) (defScope s__law_pen) .none kV36 dc36 pm36 an36 cd36 ct36), sl36⟩) (c36 : PySem.W.codeIn K cd36 "_law_pen" = true) (k36 : PySem.W.keepIn K (.ref f36) = true)
    {od37 an37 : Option Addr} {sl37 : Array (Option Value)} {oc37 kV37 dc37 pm37 cd37 ct37 : Value}
    (a37 : PySem.W.nsIn K mainGlobals "law" = some (some (.ref f37))) (l37 : K.lookup f37 = some ⟨oc37, od37, .func (PySem.W.fnOf "law" "law" (defArgs s_law) (defBody s_law) (defScope s_law) .none kV37 dc37 pm37 an37 cd37 ct37), sl37⟩) (c37 : PySem.W.codeIn K cd37 "law" = true) (k37 : PySem.W.keepIn K (.ref f37) = true)
    {tq_FEWEST_VISITS : Tok} (q_FEWEST_VISITS : PySem.W.nsIn K mainGlobals "FEWEST_VISITS" = some (some (.int 3 tq_FEWEST_VISITS)))
    {tq_MOST_VISITS : Tok} (q_MOST_VISITS : PySem.W.nsIn K mainGlobals "MOST_VISITS" = some (some (.int 1000 tq_MOST_VISITS)))
    (z1 : PySem.W.nsIn K mainGlobals "len" = some none) (z2 : PySem.W.nsIn K mainGlobals "list" = some none) (z3 : PySem.W.nsIn K mainGlobals "tuple" = some none) (z4 : PySem.W.nsIn K mainGlobals "range" = some none) (z5 : PySem.W.nsIn K mainGlobals "isinstance" = some none) (z6 : PySem.W.nsIn K mainGlobals "int" = some none) (z7 : PySem.W.nsIn K mainGlobals "bool" = some none) (z8 : PySem.W.nsIn K mainGlobals "set" = some none) (z9 : PySem.W.nsIn K mainGlobals "sorted" = some none) (z10 : PySem.W.nsIn K mainGlobals "enumerate" = some none) (z11 : PySem.W.nsIn K mainGlobals "repr" = some none) (z12 : PySem.W.nsIn K mainGlobals "all" = some none) (z13 : PySem.W.nsIn K mainGlobals "max" = some none) (z14 : PySem.W.nsIn K mainGlobals "min" = some none) (z15 : PySem.W.nsIn K mainGlobals "any" = some none) (z16 : PySem.W.nsIn K mainGlobals "zip" = some none) (z17 : PySem.W.nsIn K mainGlobals "dict" = some none) (z18 : PySem.W.nsIn K mainGlobals "sum" = some none) (z19 : PySem.W.nsIn K mainGlobals "str" = some none) :
    ∃ fd : FuncData, (∀ (s : Shared) (v : Value), BindsTo s fd ⟨[v], []⟩ [("script", v)]) ∧ ∀ base : Heap, K.In base → base.Ns mainGlobals mg → (∃ o, base.get? sysModules = some o) → FnG l.prog w K mg base CX0 8 fa fd ["script"] (spLawL K) := by
  have e := hfa.symm.trans (PySem.W.mg_of X G a37)
  cases e
  have F1 := fun_mk (st := s_is_number) l1 c1 k1
  have b1 := F1.binds (ps := ["value"]) fun _ _ _ _ _ _ us hl => match us, hl with | [_], _ => rfl
  have h1 : HasDef K mg "is_number" s_is_number ["value"] := ⟨f1, _, F1, PySem.W.mg_of X G a1, b1⟩
  have F2 := fun_mk (st := s_order_of) l2 c2 k2
  have b2 := F2.binds (ps := ["numbers"]) fun _ _ _ _ _ _ us hl => match us, hl with | [_], _ => rfl
  have h2 : HasDef K mg "order_of" s_order_of ["numbers"] := ⟨f2, _, F2, PySem.W.mg_of X G a2, b2⟩
  have F3 := fun_mk (st := s_comes_back) l3 c3 k3
  have b3 := F3.binds (ps := ["journey"]) fun _ _ _ _ _ _ us hl => match us, hl with | [_], _ => rfl
  have h3 : HasDef K mg "comes_back" s_comes_back ["journey"] := ⟨f3, _, F3, PySem.W.mg_of X G a3, b3⟩
  have F4 := fun_mk (st := s__law_fresh) l4 c4 k4
  have b4 := F4.binds (ps := ["pen"]) fun _ _ _ _ _ _ us hl => match us, hl with | [_], _ => rfl
  have h4 : HasDef K mg "_law_fresh" s__law_fresh ["pen"] := ⟨f4, _, F4, PySem.W.mg_of X G a4, b4⟩
  have F5 := fun_mk (st := s__law_ranks) l5 c5 k5
  have b5 := F5.binds (ps := ["numbers"]) fun _ _ _ _ _ _ us hl => match us, hl with | [_], _ => rfl
  have h5 : HasDef K mg "_law_ranks" s__law_ranks ["numbers"] := ⟨f5, _, F5, PySem.W.mg_of X G a5, b5⟩
  have F6 := fun_mk (st := s__law_half) l6 c6 k6
  have b6 := F6.binds (ps := ["ranks", "at"]) fun _ _ _ _ _ _ us hl => match us, hl with | [_, _], _ => rfl
  have h6 : HasDef K mg "_law_half" s__law_half ["ranks", "at"] := ⟨f6, _, F6, PySem.W.mg_of X G a6, b6⟩
  have F7 := fun_mk (st := s__law_whole) l7 c7 k7
  have b7 := F7.binds (ps := ["value", "low", "high"]) fun _ _ _ _ _ _ us hl => match us, hl with | [_, _, _], _ => rfl
  have h7 : HasDef K mg "_law_whole" s__law_whole ["value", "low", "high"] := ⟨f7, _, F7, PySem.W.mg_of X G a7, b7⟩
  have F8 := fun_mk (st := s__law_visits_of) l8 c8 k8
  have b8 := F8.binds (ps := ["looks", "rows"]) fun _ _ _ _ _ _ us hl => match us, hl with | [_, _], _ => rfl
  have h8 : HasDef K mg "_law_visits_of" s__law_visits_of ["looks", "rows"] := ⟨f8, _, F8, PySem.W.mg_of X G a8, b8⟩
  have F9 := fun_mk (st := s__law_comes_back) l9 c9 k9
  have b9 := F9.binds (ps := ["visits"]) fun _ _ _ _ _ _ us hl => match us, hl with | [_], _ => rfl
  have h9 : HasDef K mg "_law_comes_back" s__law_comes_back ["visits"] := ⟨f9, _, F9, PySem.W.mg_of X G a9, b9⟩
  have F10 := fun_mk (st := s_is_standing) l10 c10 k10
  have b10 := F10.binds (ps := ["value"]) fun _ _ _ _ _ _ us hl => match us, hl with | [_], _ => rfl
  have h10 : HasDef K mg "is_standing" s_is_standing ["value"] := ⟨f10, _, F10, PySem.W.mg_of X G a10, b10⟩
  have F11 := fun_mk (st := s_look_between) l11 c11 k11
  have b11 := F11.binds (ps := ["u", "v"]) fun _ _ _ _ _ _ us hl => match us, hl with | [_, _], _ => rfl
  have h11 : HasDef K mg "look_between" s_look_between ["u", "v"] := ⟨f11, _, F11, PySem.W.mg_of X G a11, b11⟩
  have F12 := fun_mk (st := s__law_draw) l12 c12 k12
  have b12 := F12.binds (ps := ["pen", "bound"]) fun _ _ _ _ _ _ us hl => match us, hl with | [_, _], _ => rfl
  have h12 : HasDef K mg "_law_draw" s__law_draw ["pen", "bound"] := ⟨f12, _, F12, PySem.W.mg_of X G a12, b12⟩
  have F13 := fun_mk (st := s__law_is_node) l13 c13 k13
  have b13 := F13.binds (ps := ["many", "value"]) fun _ _ _ _ _ _ us hl => match us, hl with | [_, _], _ => rfl
  have h13 : HasDef K mg "_law_is_node" s__law_is_node ["many", "value"] := ⟨f13, _, F13, PySem.W.mg_of X G a13, b13⟩
  have F14 := fun_mk (st := s__law_hops_on) l14 c14 k14
  have b14 := F14.binds (ps := ["table", "standing", "numbers", "rises"]) fun _ _ _ _ _ _ us hl => match us, hl with | [_, _, _, _], _ => rfl
  have h14 : HasDef K mg "_law_hops_on" s__law_hops_on ["table", "standing", "numbers", "rises"] := ⟨f14, _, F14, PySem.W.mg_of X G a14, b14⟩
  have F15 := fun_mk (st := s_is_node) l15 c15 k15
  have b15 := F15.binds (ps := ["many", "value"]) fun _ _ _ _ _ _ us hl => match us, hl with | [_, _], _ => rfl
  have h15 : HasDef K mg "is_node" s_is_node ["many", "value"] := ⟨f15, _, F15, PySem.W.mg_of X G a15, b15⟩
  have F16 := fun_mk (st := s_hops_of) l16 c16 k16
  have b16 := F16.binds (ps := ["journey"]) fun _ _ _ _ _ _ us hl => match us, hl with | [_], _ => rfl
  have h16 : HasDef K mg "hops_of" s_hops_of ["journey"] := ⟨f16, _, F16, PySem.W.mg_of X G a16, b16⟩
  have F17 := fun_mk (st := s__law_one_of) l17 c17 k17
  have b17 := F17.binds (ps := ["pen", "some"]) fun _ _ _ _ _ _ us hl => match us, hl with | [_, _], _ => rfl
  have h17 : HasDef K mg "_law_one_of" s__law_one_of ["pen", "some"] := ⟨f17, _, F17, PySem.W.mg_of X G a17, b17⟩
  have F18 := fun_mk (st := s__law_some_order) l18 c18 k18
  have b18 := F18.binds (ps := ["pen", "many"]) fun _ _ _ _ _ _ us hl => match us, hl with | [_, _], _ => rfl
  have h18 : HasDef K mg "_law_some_order" s__law_some_order ["pen", "many"] := ⟨f18, _, F18, PySem.W.mg_of X G a18, b18⟩
  have F19 := fun_mk (st := s__law_beside) l19 c19 k19
  have b19 := F19.binds (ps := ["pen", "u", "row"]) fun _ _ _ _ _ _ us hl => match us, hl with | [_, _, _], _ => rfl
  have h19 : HasDef K mg "_law_beside" s__law_beside ["pen", "u", "row"] := ⟨f19, _, F19, PySem.W.mg_of X G a19, b19⟩
  have F20 := fun_mk (st := s__law_is_visit) l20 c20 k20
  have b20 := F20.binds (ps := ["many", "value"]) fun _ _ _ _ _ _ us hl => match us, hl with | [_, _], _ => rfl
  have h20 : HasDef K mg "_law_is_visit" s__law_is_visit ["many", "value"] := ⟨f20, _, F20, PySem.W.mg_of X G a20, b20⟩
  have F21 := fun_mk (st := s__law_visit_not) l21 c21 k21
  have b21 := F21.binds (ps := ["table", "visits"]) fun _ _ _ _ _ _ us hl => match us, hl with | [_, _], _ => rfl
  have h21 : HasDef K mg "_law_visit_not" s__law_visit_not ["table", "visits"] := ⟨f21, _, F21, PySem.W.mg_of X G a21, b21⟩
  have F22 := fun_mk (st := s__law_some_visit) l22 c22 k22
  have b22 := F22.binds (ps := ["pen", "many"]) fun _ _ _ _ _ _ us hl => match us, hl with | [_, _], _ => rfl
  have h22 : HasDef K mg "_law_some_visit" s__law_some_visit ["pen", "many"] := ⟨f22, _, F22, PySem.W.mg_of X G a22, b22⟩
  have F23 := fun_mk (st := s__law_homed) l23 c23 k23
  have b23 := F23.binds (ps := ["pen", "visits"]) fun _ _ _ _ _ _ us hl => match us, hl with | [_, _], _ => rfl
  have h23 : HasDef K mg "_law_homed" s__law_homed ["pen", "visits"] := ⟨f23, _, F23, PySem.W.mg_of X G a23, b23⟩
  have F24 := fun_mk (st := s_is_visit) l24 c24 k24
  have b24 := F24.binds (ps := ["many", "value"]) fun _ _ _ _ _ _ us hl => match us, hl with | [_, _], _ => rfl
  have h24 : HasDef K mg "is_visit" s_is_visit ["many", "value"] := ⟨f24, _, F24, PySem.W.mg_of X G a24, b24⟩
  have F25 := fun_mk (st := s__law_some_look) l25 c25 k25
  have b25 := F25.binds (ps := ["pen", "many"]) fun _ _ _ _ _ _ us hl => match us, hl with | [_, _], _ => rfl
  have h25 : HasDef K mg "_law_some_look" s__law_some_look ["pen", "many"] := ⟨f25, _, F25, PySem.W.mg_of X G a25, b25⟩
  have F26 := fun_mk (st := s__law_odd) l26 c26 k26
  have b26 := F26.binds (ps := ["pen"]) fun _ _ _ _ _ _ us hl => match us, hl with | [_], _ => rfl
  have h26 : HasDef K mg "_law_odd" s__law_odd ["pen"] := ⟨f26, _, F26, PySem.W.mg_of X G a26, b26⟩
  have F27 := fun_mk (st := s__law_course) l27 c27 k27
  have b27 := F27.binds (ps := ["pen", "table", "most", "rises"]) fun _ _ _ _ _ _ us hl => match us, hl with | [_, _, _, _], _ => rfl
  have h27 : HasDef K mg "_law_course" s__law_course ["pen", "table", "most", "rises"] := ⟨f27, _, F27, PySem.W.mg_of X G a27, b27⟩
  have F28 := fun_mk (st := s__law_are_visits) l28 c28 k28
  have b28 := F28.binds (ps := ["many", "value"]) fun _ _ _ _ _ _ us hl => match us, hl with | [_, _], _ => rfl
  have h28 : HasDef K mg "_law_are_visits" s__law_are_visits ["many", "value"] := ⟨f28, _, F28, PySem.W.mg_of X G a28, b28⟩
  have F29 := fun_mk (st := s_is_journey) l29 c29 k29
  have b29 := F29.binds (ps := ["table", "value"]) fun _ _ _ _ _ _ us hl => match us, hl with | [_, _], _ => rfl
  have h29 : HasDef K mg "is_journey" s_is_journey ["table", "value"] := ⟨f29, _, F29, PySem.W.mg_of X G a29, b29⟩
  have F30 := fun_mk (st := s__law_some_table) l30 c30 k30
  have b30 := F30.binds (ps := ["pen", "many", "most"]) fun _ _ _ _ _ _ us hl => match us, hl with | [_, _, _], _ => rfl
  have h30 : HasDef K mg "_law_some_table" s__law_some_table ["pen", "many", "most"] := ⟨f30, _, F30, PySem.W.mg_of X G a30, b30⟩
  have F31 := fun_mk (st := s__law_falling) l31 c31 k31
  have b31 := F31.binds (ps := ["pen", "many", "most"]) fun _ _ _ _ _ _ us hl => match us, hl with | [_, _, _], _ => rfl
  have h31 : HasDef K mg "_law_falling" s__law_falling ["pen", "many", "most"] := ⟨f31, _, F31, PySem.W.mg_of X G a31, b31⟩
  have F32 := fun_mk (st := s__law_due) l32 c32 k32
  have b32 := F32.binds (ps := ["table", "many", "value"]) fun _ _ _ _ _ _ us hl => match us, hl with | [_, _, _], _ => rfl
  have h32 : HasDef K mg "_law_due" s__law_due ["table", "many", "value"] := ⟨f32, _, F32, PySem.W.mg_of X G a32, b32⟩
  have F33 := fun_mk (st := s__law_any_table) l33 c33 k33
  have b33 := F33.binds (ps := ["pen", "many", "most"]) fun _ _ _ _ _ _ us hl => match us, hl with | [_, _, _], _ => rfl
  have h33 : HasDef K mg "_law_any_table" s__law_any_table ["pen", "many", "most"] := ⟨f33, _, F33, PySem.W.mg_of X G a33, b33⟩
  have F34 := fun_mk (st := s__law_all_judged) l34 c34 k34
  have b34 := F34.binds (ps := ["table", "many", "values"]) fun _ _ _ _ _ _ us hl => match us, hl with | [_, _, _], _ => rfl
  have h34 : HasDef K mg "_law_all_judged" s__law_all_judged ["table", "many", "values"] := ⟨f34, _, F34, PySem.W.mg_of X G a34, b34⟩
  have F35 := fun_mk (st := s__law_bent) l35 c35 k35
  have b35 := F35.binds (ps := ["pen", "value", "depth"]) fun _ _ _ _ _ _ us hl => match us, hl with | [_, _, _], _ => rfl
  have h35 : HasDef K mg "_law_bent" s__law_bent ["pen", "value", "depth"] := ⟨f35, _, F35, PySem.W.mg_of X G a35, b35⟩
  have F36 := fun_mk (st := s__law_pen) l36 c36 k36
  have b36 := F36.binds (ps := ["script"]) fun _ _ _ _ _ _ us hl => match us, hl with | [_], _ => rfl
  have F37 := fun_mk (st := s_law) l37 c37 k37
  have b37 := F37.binds (ps := ["script"]) fun _ _ _ _ _ _ us hl => match us, hl with | [_], _ => rfl
  have B : Blt mg := ⟨PySem.W.mg_none_of X G z1, PySem.W.mg_none_of X G z2, PySem.W.mg_none_of X G z3, PySem.W.mg_none_of X G z4, PySem.W.mg_none_of X G z5, PySem.W.mg_none_of X G z6, PySem.W.mg_none_of X G z7, PySem.W.mg_none_of X G z8, PySem.W.mg_none_of X G z9, PySem.W.mg_none_of X G z10, PySem.W.mg_none_of X G z11, PySem.W.mg_none_of X G z12, PySem.W.mg_none_of X G z13, PySem.W.mg_none_of X G z14, PySem.W.mg_none_of X G z15, PySem.W.mg_none_of X G z16, PySem.W.mg_none_of X G z17, PySem.W.mg_none_of X G z18, PySem.W.mg_none_of X G z19⟩
  refine ⟨PySem.W.fnOf "law" "law" (defArgs s_law) (defBody s_law) (defScope s_law) .none kV37 dc37 pm37 an37 cd37 ct37, fun s v => .of_eq rfl, fun base _ _ hs => ?_⟩
  have d1 := ok_is_number (P := l.prog) (w := w) (base := base) B hs  h1
  have d2 := ok_order_of (P := l.prog) (w := w) (base := base) B hs  h2
  have d3 := ok_comes_back (P := l.prog) (w := w) (base := base) B hs  h3
  have d4 := ok__law_fresh (P := l.prog) (w := w) (base := base) B hs  h4
  have d5 := ok__law_ranks (P := l.prog) (w := w) (base := base) B hs  h5
  have d6 := ok__law_half (P := l.prog) (w := w) (base := base) B hs  h6
  have d7 := ok__law_whole (P := l.prog) (w := w) (base := base) B hs  h7
  have d8 := ok__law_visits_of (P := l.prog) (w := w) (base := base) B hs  h8
  have d9 := ok__law_comes_back (P := l.prog) (w := w) (base := base) B hs  h9
  have d10 := ok_is_standing (P := l.prog) (w := w) (base := base) B hs d1 h10
  have d11 := ok_look_between (P := l.prog) (w := w) (base := base) B hs d2 h11
  have d12 := ok__law_draw (P := l.prog) (w := w) (base := base) B hs d4 h12
  have d13 := ok__law_is_node (P := l.prog) (w := w) (base := base) B hs d7 h13
  have d14 := ok__law_hops_on (P := l.prog) (w := w) (base := base) B hs d5 d6 h14
  have d15 := ok_is_node (P := l.prog) (w := w) (base := base) B hs d1 d10 h15
  have d16 := ok_hops_of (P := l.prog) (w := w) (base := base) B hs d11 h16
  have d17 := ok__law_one_of (P := l.prog) (w := w) (base := base) B hs d12 h17
  have d18 := ok__law_some_order (P := l.prog) (w := w) (base := base) B hs d5 d12 h18
  have d19 := ok__law_beside (P := l.prog) (w := w) (base := base) B hs d12 h19
  have d20 := ok__law_is_visit (P := l.prog) (w := w) (base := base) B hs d13 d7 h20
  have d21 := ok__law_visit_not (P := l.prog) (w := w) (base := base) B hs d5 h21
  have d22 := ok__law_some_visit (P := l.prog) (w := w) (base := base) B hs d12 h22
  have d23 := ok__law_homed (P := l.prog) (w := w) (base := base) B hs d12 h23
  have d24 := ok_is_visit (P := l.prog) (w := w) (base := base) B hs d15 d10 h24
  have d25 := ok__law_some_look (P := l.prog) (w := w) (base := base) B hs d18 d12 h25
  have d26 := ok__law_odd (P := l.prog) (w := w) (base := base) B hs d17 h26
  have d27 := ok__law_course (P := l.prog) (w := w) (base := base) B hs d17 d6 d19 d14 h27
  have d28 := ok__law_are_visits (P := l.prog) (w := w) (base := base) B hs d20 h28
  have d29 := ok_is_journey (P := l.prog) (w := w) (base := base) B hs d24 d16 ⟨_, PySem.W.mg_of X G q_FEWEST_VISITS⟩ ⟨_, PySem.W.mg_of X G q_MOST_VISITS⟩ h29
  have d30 := ok__law_some_table (P := l.prog) (w := w) (base := base) B hs d12 d25 h30
  have d31 := ok__law_falling (P := l.prog) (w := w) (base := base) B hs d12 d25 h31
  have d32 := ok__law_due (P := l.prog) (w := w) (base := base) B hs d21 d28 h32
  have d33 := ok__law_any_table (P := l.prog) (w := w) (base := base) B hs d12 d30 d31 h33
  have d34 := ok__law_all_judged (P := l.prog) (w := w) (base := base) B hs d29 d32 h34
  have n0 : DefD l.prog w K mg base 4 "_law_bent" 3 (wRec 0) := h35.ok (k := 3) sc__law_bent fun f cdv A outer s H E hr gd => ⟨_, _, dss_never, fun svs Φ hl h => h.elim⟩
  have n1 := ok__law_bent (P := l.prog) (w := w) (base := base) 0 4 (by decide) B hs d12 d26 n0 h35
  have n2 := ok__law_bent (P := l.prog) (w := w) (base := base) 1 5 (by decide) B hs d12 d26 n1 h35
  have d35 : DefD l.prog w K mg base 7 "_law_bent" 3 w__law_bent := ok__law_bent (P := l.prog) (w := w) (base := base) 2 6 (by decide) B hs d12 d26 n2 h35
  exact ok_law (P := l.prog) (w := w) (base := base) B hs d12 d33 d22 d26 d27 d8 d23 d35 d34 d28 d3 d9 (ok__law_pen B F36) (PySem.W.mg_of X G a36) k36 b36 F37
end DL
open PySem PySem.W PyProof.Rows
set_option maxHeartbeats 0 in
theorem PySem.Challenge.cw_nevergoback_k25_visits_and_journeys_judg_holds : PySem.Challenge.rw_nevergoback_k25_visits_and_journeys_judg.Holds := by
  w_on; o_law; k_head; (case hw => w_witness2)
  k_fill
  refine DL.walk_g (l := PySem.Challenge.rw_nevergoback_k25_visits_and_journeys_judg) (n := 63) (k := 8) (x := "script") (CX := fun _ => L2.CX0) (sp := fun w => DL.spLawL _) rfl (by decide) rfl ⟨rfl, by decide, by decide⟩ (fun w h Y => PySem.W.kIn_of Y) ?F (fun _ _ a ns hl ho hS => ⟨a, ns, rfl, hl, DL.spLawL.of ho hS, fun _ => rfl⟩) (fun _ _ _ _ _ h => h) (by decide +kernel)
  case F =>
    intro w mg fa h KX G hmg
    refine' DL.all_mk KX G hmg ?a1 ?l1 ?c1 ?k1 ?a2 ?l2 ?c2 ?k2 ?a3 ?l3 ?c3 ?k3 ?a4 ?l4 ?c4 ?k4 ?a5 ?l5 ?c5 ?k5 ?a6 ?l6 ?c6 ?k6 ?a7 ?l7 ?c7 ?k7 ?a8 ?l8 ?c8 ?k8 ?a9 ?l9 ?c9 ?k9 ?a10 ?l10 ?c10 ?k10 ?a11 ?l11 ?c11 ?k11 ?a12 ?l12 ?c12 ?k12 ?a13 ?l13 ?c13 ?k13 ?a14 ?l14 ?c14 ?k14 ?a15 ?l15 ?c15 ?k15 ?a16 ?l16 ?c16 ?k16 ?a17 ?l17 ?c17 ?k17 ?a18 ?l18 ?c18 ?k18 ?a19 ?l19 ?c19 ?k19 ?a20 ?l20 ?c20 ?k20 ?a21 ?l21 ?c21 ?k21 ?a22 ?l22 ?c22 ?k22 ?a23 ?l23 ?c23 ?k23 ?a24 ?l24 ?c24 ?k24 ?a25 ?l25 ?c25 ?k25 ?a26 ?l26 ?c26 ?k26 ?a27 ?l27 ?c27 ?k27 ?a28 ?l28 ?c28 ?k28 ?a29 ?l29 ?c29 ?k29 ?a30 ?l30 ?c30 ?k30 ?a31 ?l31 ?c31 ?k31 ?a32 ?l32 ?c32 ?k32 ?a33 ?l33 ?c33 ?k33 ?a34 ?l34 ?c34 ?k34 ?a35 ?l35 ?c35 ?k35 ?a36 ?l36 ?c36 ?k36 ?a37 ?l37 ?c37 ?k37 ?q_FEWEST_VISITS ?q_MOST_VISITS ?z1 ?z2 ?z3 ?z4 ?z5 ?z6 ?z7 ?z8 ?z9 ?z10 ?z11 ?z12 ?z13 ?z14 ?z15 ?z16 ?z17 ?z18 ?z19
    (case a1 => k_is); (case l1 => k_is); (case c1 => k_is); (case k1 => k_is); (case a2 => k_is); (case l2 => k_is); (case c2 => k_is); (case k2 => k_is); (case a3 => k_is); (case l3 => k_is); (case c3 => k_is); (case k3 => k_is); (case a4 => k_is); (case l4 => k_is); (case c4 => k_is); (case k4 => k_is); (case a5 => k_is); (case l5 => k_is); (case c5 => k_is); (case k5 => k_is); (case a6 => k_is); (case l6 => k_is); (case c6 => k_is); (case k6 => k_is); (case a7 => k_is); (case l7 => k_is); (case c7 => k_is); (case k7 => k_is); (case a8 => k_is); (case l8 => k_is); (case c8 => k_is); (case k8 => k_is); (case a9 => k_is); (case l9 => k_is); (case c9 => k_is); (case k9 => k_is); (case a10 => k_is); (case l10 => k_is); (case c10 => k_is); (case k10 => k_is); (case a11 => k_is); (case l11 => k_is); (case c11 => k_is); (case k11 => k_is); (case a12 => k_is); (case l12 => k_is); (case c12 => k_is); (case k12 => k_is); (case a13 => k_is); (case l13 => k_is); (case c13 => k_is); (case k13 => k_is); (case a14 => k_is); (case l14 => k_is); (case c14 => k_is); (case k14 => k_is); (case a15 => k_is); (case l15 => k_is); (case c15 => k_is); (case k15 => k_is); (case a16 => k_is); (case l16 => k_is); (case c16 => k_is); (case k16 => k_is); (case a17 => k_is); (case l17 => k_is); (case c17 => k_is); (case k17 => k_is); (case a18 => k_is); (case l18 => k_is); (case c18 => k_is); (case k18 => k_is); (case a19 => k_is); (case l19 => k_is); (case c19 => k_is); (case k19 => k_is); (case a20 => k_is); (case l20 => k_is); (case c20 => k_is); (case k20 => k_is); (case a21 => k_is); (case l21 => k_is); (case c21 => k_is); (case k21 => k_is); (case a22 => k_is); (case l22 => k_is); (case c22 => k_is); (case k22 => k_is); (case a23 => k_is); (case l23 => k_is); (case c23 => k_is); (case k23 => k_is); (case a24 => k_is); (case l24 => k_is); (case c24 => k_is); (case k24 => k_is); (case a25 => k_is); (case l25 => k_is); (case c25 => k_is); (case k25 => k_is); (case a26 => k_is); (case l26 => k_is); (case c26 => k_is); (case k26 => k_is); (case a27 => k_is); (case l27 => k_is); (case c27 => k_is); (case k27 => k_is); (case a28 => k_is); (case l28 => k_is); (case c28 => k_is); (case k28 => k_is); (case a29 => k_is); (case l29 => k_is); (case c29 => k_is); (case k29 => k_is); (case a30 => k_is); (case l30 => k_is); (case c30 => k_is); (case k30 => k_is); (case a31 => k_is); (case l31 => k_is); (case c31 => k_is); (case k31 => k_is); (case a32 => k_is); (case l32 => k_is); (case c32 => k_is); (case k32 => k_is); (case a33 => k_is); (case l33 => k_is); (case c33 => k_is); (case k33 => k_is); (case a34 => k_is); (case l34 => k_is); (case c34 => k_is); (case k34 => k_is); (case a35 => k_is); (case l35 => k_is); (case c35 => k_is); (case k35 => k_is); (case a36 => k_is); (case l36 => k_is); (case c36 => k_is); (case k36 => k_is); (case a37 => k_is); (case l37 => k_is); (case c37 => k_is); (case k37 => k_is); (case q_FEWEST_VISITS => k_is); (case q_MOST_VISITS => k_is); (case z1 => k_is); (case z2 => k_is); (case z3 => k_is); (case z4 => k_is); (case z5 => k_is); (case z6 => k_is); (case z7 => k_is); (case z8 => k_is); (case z9 => k_is); (case z10 => k_is); (case z11 => k_is); (case z12 => k_is); (case z13 => k_is); (case z14 => k_is); (case z15 => k_is); (case z16 => k_is); (case z17 => k_is); (case z18 => k_is); (case z19 => k_is)
