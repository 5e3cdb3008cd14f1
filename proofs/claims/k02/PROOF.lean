import PyProof.Rows.All
import Wide.All
import OpenK.AllK
import Wide.FinOn
import PyProof.EqAt
import PyProof.EqKinds
import PyProof.TupleCall
import HandS.Base
import HandS.Call
import HandS.List
import HandS.Comp
import HandS.Ends
import HandS.Words
import PyProof.ReprReads
import PyProof.ReprRoads
import HandS.Dict
import HandS.Exc
import HandS.ExcInit
import KE.KExcInit
import KE.KExcIs
import HandS.ExcValue
import HandS.MakeKwOnly
import HandS.IsInst
import HandS.ForMost
import HandS.Evl
import HandS.Iter
import PySem.Challenge.RW_maskededits_k02_exceptions_apart
import PyProof.ExcBaseAll.LookupError
set_option Elab.async false
set_option linter.all false
set_option maxRecDepth 100000
set_option maxHeartbeats 4000000
/-! a def's promise for calls under which no guarded builtin runs; repr of data -/
namespace My
open PySem PySem.Spec PyProof.Rows L2

/-- as FnOk, asked only where no guard runs below -/
structure FnG (P : Program) (w : World) (K : PySem.W.Frag) (mg : Str → Option Value) (base : Heap) (CX : CXT) (k : Nat) (f : Addr) (fd : FuncData)
    (ps : List Str) (sp : Sp) : Prop where
  len : ∀ vs H Q E, sp vs H Q E → vs.length = ps.length
  run : ∀ (A : Around) (outer : List Env) (s : Shared) (H : Hp) (args : Args) (us : List Value) (vs : List V) (Q : VK) (E : XK),
    A.guards = some [] → Room k A → Env0 P w K mg base A outer s H → BindsTo s fd args (ps.zip us) → Vals vs us → sp vs H Q E →
    codeAny (model P w) A (.call (.ref f) args) (CR CX outer P w H s Q E) s

section
variable {P : Program} {w : World} {K : PySem.W.Frag} {mg : Str → Option Value} {base : Heap} {CX : CXT} {k : Nat} {f : Addr} {fd : FuncData}
  {ps : List Str} {sp : Sp}
theorem FnG.of (F : FnOk P w K mg base CX k f fd ps sp) : FnG P w K mg base CX k f fd ps sp :=
  ⟨F.len, fun A outer s H args us vs Q E _ hr e0 hb r hs => F.run A outer s H args us vs Q E hr e0 hb r hs⟩

/-- by the body, its guards known -/
theorem FnG.byBody {x qual : Str} {st : Stmt} {N : List Str} (F : Fun K x qual st f fd) (S : FnScope N ps (defScope st))
    (len : ∀ vs H Q E, sp vs H Q E → vs.length = ps.length)
    (body : ∀ (cdv : Value) (A : Around) (outer : List Env) (s : Shared) (H : Hp) (vs : List V) (Q : VK) (E : XK),
      A.guards = some [] → Room k (A.deeper (envOfC qual (defScope st) s.heap.objs.size f cdv)) → sp vs H Q E →
      ∃ t, PSs (cxOf CX P w K mg base N qual (defScope st) f cdv A outer s H E) (defBody st) t ∧
        t { nx := fun _ H' => Q .non H', rt := Q } (start N vs) H) :
    FnG P w K mg base CX (k + 1) f fd ps sp := by
  obtain ⟨oc, od, kV, doc, pm, an, cdv, ct, osl, rfl, lk, code⟩ := F.ex
  refine ⟨len, fun A outer s H args us vs Q E hg hr e0 hb r hsp => ?_⟩
  have inK : K.In s.heap := e0.mod.kin.keeps fun b o e => (e0.bs b o e).1
  have free : s.heap.NoLimit := e0.mod.nolimit.keeps fun b o e => (e0.bs b o e).1
  refine codeAny_call_function hr.depth (inK _ _ lk) rfl S.co S.gen rfl
    (PySem.W.codeRec_of inK code) (hb _ _ _ _ ?_)
  have kinds : ∀ y ∈ ps.zip us, (defScope st).names.lookup y.1 = some .local ∨
      ((defScope st).names.lookup y.1 = some .cell ∧ ((cellsFrom (s.heap.objs.size + 1) (defScope st).names []).lookup y.1).isSome = true) := by
    rintro ⟨n, v⟩ hy
    cases S.par n (List.of_mem_zip hy).1 with
    | inl q => exact Or.inl q
    | inr q => exact Or.inr ⟨q, PySem.W.cellsFrom_some _ _ _ (Or.inl q)⟩
  refine wpAny_newFunctionEnv_cells S.kind kinds fun env he s1 x => ?_
  subst he
  refine ⟨free.keeps x.toInCall.keep, codeAny_func ?_⟩
  obtain ⟨t, ht, hq⟩ := body cdv A outer s H vs Q E hg (hr.deeper _) hsp
  have I0 : Inv (cxOf CX P w K mg base N qual (defScope st) f cdv A outer s H E) [] (start N vs) H s1 :=
    inv_start S hr.hd e0 (len _ _ _ _ hsp) r x
  refine wpAny_mono (ht.run [] s1 (start N vs) H _ I0 hq) (fun fl s' hs => ?_) fun e s' hs => hs
  match fl, hs with
  | .ret u, hs =>
    obtain ⟨v, σ', H', J, rv, q⟩ := hs
    exact ⟨v, H', J.os, J.bare, J.base, J.hok, rv, q⟩
  | .next, hs =>
    obtain ⟨σ', H', J, q⟩ := hs
    exact ⟨V.non, H', J.os, J.bare, J.base, J.hok, rfl, q⟩
  | .brk, hs =>
    obtain ⟨_, _, _, q⟩ := hs
    exact False.elim q
  | .cont, hs =>
    obtain ⟨_, _, _, q⟩ := hs
    exact False.elim q
end

/-! ### the law's own call, no guard below -/
/-- the script, if it is no object of the written part -/
def onlyScript (K : PySem.W.Frag) (a : Addr) (o : Obj) (xs : List V) : Hp := fun b =>
  if b = a ∧ (K.lookup a).isNone = true then some (.frz o (.lst xs)) else none
theorem onlyScript_at {K : PySem.W.Frag} {a b : Addr} {o : Obj} {xs : List V} {u : HO} (h : onlyScript K a o xs b = some u) :
    b = a ∧ K.lookup a = none ∧ u = .frz o (.lst xs) := by
  unfold onlyScript at h
  split at h
  · next q => exact ⟨q.1, Option.isNone_iff_eq_none.mp q.2, (Option.some.inj h).symm⟩
  · cases h
theorem onlyScript_only {K : PySem.W.Frag} {a : Addr} {o : Obj} {xs : List V} : Only (onlyScript K a o xs) := fun b => by
  cases e : onlyScript K a o xs b with
  | none => exact Or.inl rfl
  | some u =>
    obtain ⟨_, _, rfl⟩ := onlyScript_at e
    exact Or.inr ⟨_, _, rfl⟩

theorem lawCall {P : Program} {w : World} {K : PySem.W.Frag} {mg mb : Str → Option Value} {k : Nat} {fa a : Addr} {fd : FuncData} {x : Str} {sp : Sp}
    {s₁ : Shared} {vs : List Value} {ns : List Int}
    (inK : K.In s₁.heap) (glob : s₁.heap.Ns mainGlobals mg) (blt : s₁.heap.Ns builtinsNs mb) (bltIs : ∀ x : Str, x ≠ "__name__" → mb x = bootBuiltins x)
    (free : s₁.heap.NoLimit) (gens : s₁.gens = #[]) (ha : s₁.heap.get? a = some { cls := .type "list", data := .seq vs.toArray }) (areInts : IntsAre vs ns)
    (len : ns.length ≤ sizeLine) (room : Room k callerA)
    (F : ∀ base : Heap, K.In base → base.Ns mainGlobals mg → FnG P w K mg base CX0 k fa fd [x] sp)
    (binds : ∀ (s : Shared) (u : Value), BindsTo s fd ⟨[u], []⟩ [(x, u)])
    (promise : ∀ H : Hp, Only H → SqL K H a (ns.map V.int) → sp [.ref a] H (fun v _ => v = .bl true) fun _ _ _ => False) :
    codeAny (model P w) callerA (.call (.ref fa) ⟨[.ref a], []⟩)
      (fun r s' => r = .ok (.ret (.bool true)) ∧ OldK s₁.heap s'.heap ∧ s'.os = s₁.os ∧ AllBare s'.gens) s₁ := by
  have rv := vals_ints areInts
  have lenV := areInts.length
  let ob : Obj := { cls := .type "list", data := .seq vs.toArray }
  let H := onlyScript K a ob (ns.map V.int)
  have objOk : ObjOk P w H s₁.heap a (.frz ob (.lst (ns.map V.int))) :=
    ⟨ha, by rw [List.length_map]; exact len, vs, _, rv, ha⟩
  have hok : HOk P w H s₁.heap := fun b u e => by
    obtain ⟨rfl, _, rfl⟩ := onlyScript_at e
    exact objOk
  have hS : SqL K H a (ns.map V.int) := by
    cases e : K.lookup a with
    | none => exact Or.inl (Or.inr ⟨ob, if_pos ⟨rfl, by rw [e]; rfl⟩⟩)
    | some o =>
      have q := inK a o e
      rw [ha] at q
      cases q
      exact Or.inr ⟨_, vs.toArray, _, e, rfl, rfl, rfl, by rw [List.size_toArray, lenV]; exact len, by simpa using rv⟩
  have freeAt : ∀ {b : Addr} {o : Obj}, s₁.heap.get? b = some o → (b = a → False) → H b = none := fun {b o} _ n => by
    cases e : H b with
    | none => rfl
    | some u => exact (n (onlyScript_at e).1).elim
  have under : ∀ {b : Addr} {o : Obj}, s₁.heap.get? b = some o → H b = none → (hidT s₁.heap H).get? b = some o := fun e n => hidT_get e n
  have maps : ∀ {b : Addr} {m : Str → Option Value}, s₁.heap.Ns b m → (hidT s₁.heap H).Ns b m := by
    rintro b m ⟨o, es, ep, e, d, r⟩
    refine ⟨o, es, ep, under e (freeAt e ?_), d, r⟩
    rintro rfl
    rw [ha] at e
    cases e
    cases d
  have inBase : K.In (hidT s₁.heap H) := fun b o e => under (inK b o e) (by
    cases q : H b with
    | none => rfl
    | some u =>
      obtain ⟨rfl, z, _⟩ := onlyScript_at q
      rw [z] at e
      cases e)
  have md : Mod K mg (hidT s₁.heap H) := by
    obtain ⟨mc, q1, q2⟩ := free
    exact ⟨inBase, maps glob, ⟨mb, maps blt, bltIs⟩, ⟨mc, maps q1, q2⟩⟩
  have nil : ∀ b : Addr, b ∈ frs [] → False := fun b z => by
    have z' : b ∈ ([] : List Addr) := z
    cases z'
  have e0 : Env0 P w K mg (hidT s₁.heap H) callerA [] s₁ H :=
    ⟨rfl, md, fun b o e => of_hidT e, Nat.le_of_eq (hidT_size _ _), trivial, fun b hb => (nil b hb).elim, hok, .of_eq gens⟩
  have run := (F _ inBase (maps glob)).run callerA [] s₁ H ⟨[.ref a], []⟩ [.ref a] [.ref a] _ _ rfl room e0 (binds s₁ (.ref a)) (.cons rfl .nil)
    (promise H onlyScript_only hS)
  refine codeAny_mono run fun r s' h => ?_
  match r, h with
  | .error e, h => exact False.elim h
  | .ok (.ret u), h =>
    obtain ⟨v, H', os, bare, un, hok', r', q⟩ := h
    obtain rfl : v = .bl true := q
    obtain rfl : u = Value.bool true := r'
    refine ⟨rfl, OldK.of_keep fun b o e => ?_, os, bare⟩
    cases q : H b with
    | none => exact un.keep b o e q (fun z => nil b z) (by simp)
    | some u =>
      obtain ⟨rfl, _, rfl⟩ := onlyScript_at q
      have q2 := un.frzs _ _ _ q
      obtain ⟨e2, _⟩ := hok' _ _ q2
      rw [ha] at e
      cases e
      exact e2
  | .ok .next, h => exact False.elim h
  | .ok .brk, h => exact False.elim h
  | .ok .cont, h => exact False.elim h

/-- what the head leaves to the law's promise -/
theorem walkG {l : PySem.W.OpenLaw} {n k : Nat} {q : Program} {loose : List Str} {XP : (Str → Option Value) → Heap → Prop} {YP : World → Heap → Prop}
    {d : DefRec} {K : Params → PySem.W.Frag} {sp : World → Sp} {x : Str}
    (most : l.most = some n) (small : n ≤ sizeLine) (hdf : d.params.defaults = []) (room : Room k callerA)
    (hY : ∀ (w : World) (h : Heap), YP w h → (K w.params).In h)
    (F : ∀ (w : World) (mg : Str → Option Value) (fa : Addr) (h : Heap), (K w.params).In h → h.Ns mainGlobals mg → mg d.name = some (.ref fa) →
      ∃ fd : FuncData, (∀ (s : Shared) (u : Value), BindsTo s fd ⟨[u], []⟩ [(x, u)]) ∧
        ∀ base : Heap, (K w.params).In base → base.Ns mainGlobals mg → FnG l.prog w (K w.params) mg base CX0 k fa fd [x] (sp w))
    (promise : ∀ (w : World) (H : Hp) (a : Addr) (ns : List Int), ns.length ≤ n → Only H → SqL (K w.params) H a (ns.map V.int) →
      sp w [.ref a] H (fun v _ => v = .bl true) fun _ _ _ => False) :
    PySem.W.WalkO q loose XP YP l.row.toRowW d [] (fun f vs => PySem.call f vs) := by
  refine Att.attach_call most hdf fun w s₀ s₁ mg mb fa o pm cd doc a vs ns G Y ho hd hcd hmg hobj hints hlen hg => ?_
  have inK := hY w _ Y
  obtain ⟨fd, binds, hF⟩ := F w mg fa _ inK G.T.g hmg
  exact lawCall inK G.T.g G.T.b G.T.builtins G.T.nolimit hg hobj hints (Nat.le_trans hlen small) room hF binds
    fun H hO hS => promise w H a ns hlen hO hS
end My
set_option maxHeartbeats 4000000
/-! values that stand for data, and what repr makes of them -/
namespace My
open PySem PySem.Spec PyProof.Rows L2

mutual
/-- v stands for the datum d: an empty dict may be among it -/
inductive Dd (K : PySem.W.Frag) (H : Hp) : V → PyData → Prop
  | non : Dd K H .non .none
  | bl (b : Bool) : Dd K H (.bl b) (.bool b)
  | int (i : Int) : Dd K H (.int i) (.int i)
  | str (x : Str) : Dd K H (.str x) (.str x)
  | lst {a : Addr} {xs : List V} {ds : List PyData} : SqL K H a xs → a ≠ sysModules → Dds K H xs ds → Dd K H (.ref a) (.list ds)
  | tup {a : Addr} {xs : List V} {ds : List PyData} : SqT K H a xs → Dds K H xs ds → Dd K H (.ref a) (.tuple ds)
  | dct {a : Addr} : H a = some (.dK []) → Dd K H (.ref a) (.dict [])
inductive Dds (K : PySem.W.Frag) (H : Hp) : List V → List PyData → Prop
  | nil : Dds K H [] []
  | cons {v : V} {vs : List V} {d : PyData} {ds : List PyData} : Dd K H v d → Dds K H vs ds → Dds K H (v :: vs) (d :: ds)
end

/-! it stands as long as the tracked objects do -/
mutual
theorem Dd.ext {K : PySem.W.Frag} {H H' : Hp} (e : ∀ b o, H b = some o → H' b = some o) : ∀ (d : PyData) (v : V), Dd K H v d → Dd K H' v d
  | .none, _, h => by cases h; exact .non
  | .bool b, _, h => by cases h; exact .bl b
  | .int i, _, h => by cases h; exact .int i
  | .str x, _, h => by cases h; exact .str x
  | .list ds, _, h => by
    cases h with
    | lst hs n ha => exact .lst (Same.seq e hs) n (Dds.ext e ds _ ha)
  | .tuple ds, _, h => by
    cases h with
    | tup hs ha =>
      refine .tup ?_ (Dds.ext e ds _ ha)
      rcases hs with (h | ⟨o, h⟩) | h
      · exact .inl (.inl (e _ _ h))
      · exact .inl (.inr ⟨o, e _ _ h⟩)
      · exact .inr h
  | .dict kvs, _, h => by
    cases h with
    | dct h => exact .dct (e _ _ h)
theorem Dds.ext {K : PySem.W.Frag} {H H' : Hp} (e : ∀ b o, H b = some o → H' b = some o) : ∀ (ds : List PyData) (vs : List V), Dds K H vs ds → Dds K H' vs ds
  | [], _, h => by cases h; exact .nil
  | d :: ds, _, h => by
    cases h with
    | cons h1 h2 => exact .cons (Dd.ext e d _ h1) (Dds.ext e ds _ h2)
end

section
variable {X : Cx} {pins : List (Addr × Obj)} {σ : L2.St} {H : Hp} {s : Shared}
mutual
theorem Dd.reads (I : Inv X pins σ H s) : ∀ (d : PyData) (v : V) (u : Value), Dd X.K H v d → RelV v u →
    ∃ as, Reads s.heap u d as ∧ sysModules ∉ as
  | .none, _, _, h, r => by
    cases h
    cases r
    exact ⟨_, Reads.none, by simp⟩
  | .bool b, _, _, h, r => by
    cases h
    cases r
    exact ⟨_, Reads.bool b, by simp⟩
  | .int i, _, _, h, r => by
    cases h
    obtain ⟨t, rfl⟩ := r
    exact ⟨_, Reads.int i t, by simp⟩
  | .str x, _, _, h, r => by
    cases h
    obtain ⟨t, rfl⟩ := r
    exact ⟨_, Reads.str x t, by simp⟩
  | .list ds, _, _, h, r => by
    cases h with
    | lst hs n ha =>
      cases r
      obtain ⟨its, rv, ⟨o, m, ho, hc, _, hd⟩, _⟩ := I.list hs
      obtain ⟨as, hr, q⟩ := Dds.reads I ds _ its ha rv
      refine ⟨_, Reads.list ho hc hd hr, fun hm => ?_⟩
      rcases List.mem_cons.mp hm with e | hm
      · exact n e.symm
      · exact q hm
  | .tuple ds, _, _, h, r => by
    cases h with
    | tup hs ha =>
      cases r
      obtain ⟨its, rv, ⟨o, ho, hc, n, hd⟩, _⟩ := I.tuple hs
      obtain ⟨as, hr, q⟩ := Dds.reads I ds _ its ha rv
      exact ⟨_, Reads.tuple ho hc hd hr, q⟩
  | .dict kvs, _, _, h, r => by
    cases h with
    | @dct a h =>
      cases r
      obtain ⟨z, hne, vs, rel, dd⟩ := dk_of I.hok h
      cases rel
      obtain ⟨o, es, ep, ho, hx, hd, _, hes, _⟩ := dd
      have e0 : es.toList = [] := by
        cases q : es.toList with
        | nil => rfl
        | cons e r =>
          rw [q] at hes
          cases hes
      refine ⟨_, Reads.dict (kvs := []) ho hx.1 hd (by rw [e0]; exact .nil) (by rw [e0]; exact .nil), fun hm => ?_⟩
      have e1 : sysModules = a := by simpa using hm
      rw [e1] at hne
      simp at hne
theorem Dds.reads (I : Inv X pins σ H s) : ∀ (ds : List PyData) (vs : List V) (us : List Value), Dds X.K H vs ds → Vals vs us →
    ∃ as, ReadsAll s.heap us ds as ∧ sysModules ∉ as
  | [], _, _, h, r => by
    cases h
    cases r
    exact ⟨_, ReadsAll.nil, by simp⟩
  | d :: ds, _, _, h, r => by
    cases h with
    | cons h1 h2 =>
      cases r with
      | cons r1 r2 =>
        obtain ⟨as, q1, p1⟩ := Dd.reads I d _ _ h1 r1
        obtain ⟨bs, q2, p2⟩ := Dds.reads I ds _ _ h2 r2
        refine ⟨_, ReadsAll.cons q1 q2, fun hm => ?_⟩
        rcases List.mem_append.mp hm with m | m
        · exact p1 m
        · exact p2 m
end
mutual
theorem Dp.plain {K : PySem.W.Frag} {H : Hp} : ∀ (d : PyData) (v : V), Dp K H v d → d.hasDict = false
  | .none, _, _ => by simp only [PyData.hasDict]
  | .bool _, _, _ => by simp only [PyData.hasDict]
  | .int _, _, _ => by simp only [PyData.hasDict]
  | .str _, _, _ => by simp only [PyData.hasDict]
  | .list ds, _, h => by
    cases h with
    | lst hs ha =>
      simp only [PyData.hasDict]
      exact DpAll.plain ds _ ha
  | .tuple ds, _, h => by
    cases h with
    | tup hs ha =>
      simp only [PyData.hasDict]
      exact DpAll.plain ds _ ha
  | .dict _, _, h => by cases h
theorem DpAll.plain {K : PySem.W.Frag} {H : Hp} : ∀ (ds : List PyData) (vs : List V), DpAll K H vs ds → PyData.hasDictAll ds = false
  | [], _, _ => by simp only [PyData.hasDictAll]
  | d :: ds, _, h => by
    cases h with
    | cons h1 h2 => simp only [PyData.hasDictAll, Dp.plain d _ h1, DpAll.plain ds _ h2, Bool.or_self]
end
/-- what repr of a value asks: that it stands for a datum, without dicts or with -/
def rRepr (K : PySem.W.Frag) : List V → Hp → VK → Prop := fun xs H Q => ∃ v d, xs = [v] ∧ (Dp K H v d ∨ Dd K H v d) ∧
  d.showable = true ∧ d.shown.length ≤ sizeLine ∧ d.depth ≤ 64 ∧ Q (.str d.shown) H
theorem call_repr {k : Nat} (hg : X.A.guards = some []) (hr : Room k X.A) : CallR X (.builtin "repr") (rRepr X.K) := by
  intro pins s σ H xs us Q I r h
  obtain ⟨v, d, rfl, hd, sh, sz, dp, q⟩ := h
  obtain ⟨u, rfl, ru⟩ := vals1 r
  have rd : ∃ as, Reads s.heap u d as ∧ (d.hasDict = true → sysModules ∉ as) := by
    rcases hd with hd | hd
    · obtain ⟨as, q⟩ := Dp.reads I d v u hd ru
      exact ⟨as, q, fun z => by rw [Dp.plain d v hd] at z; cases z⟩
    · obtain ⟨as, q, n⟩ := Dd.reads I d v u hd ru
      exact ⟨as, q, fun _ => n⟩
  obtain ⟨as, rd, nd⟩ := rd
  have un := hr.un
  have base : ∀ {x : Str} {t' : Nat} {tk : Tok}, x = d.shown → EP X pins σ Q (.str x tk) { s with toks := t' } := fun {x t' tk} e => by
    subst e
    exact ⟨.str _, H, I.tok _, ⟨tk, rfl⟩, q⟩
  cases rd with
  | none => exact PySem.P.repr_of_none (base (by simp only [PyData.shown]))
  | bool b => exact PySem.P.repr_of_bool (base (by simp only [PyData.shown]))
  | int i t => exact PySem.P.repr_of_int (by simpa [PyData.showable] using sh) (base (by simp only [PyData.shown]))
  | str x t => exact PySem.P.repr_of_str (base (by simp only [PyData.shown])) (by simpa only [PyData.shown] using sz)
  | list h1 h2 h3 h4 =>
    exact repr_of_reads' (.list h1 h2 h3 h4) sh nd hg (by omega) (fun _ _ z => z)
      (fun h' u tk hk => ⟨.str _, H, I.kept (t' := tk) hk, ⟨u, rfl⟩, q⟩) sz
  | tuple h1 h2 h3 h4 =>
    exact repr_of_reads' (.tuple h1 h2 h3 h4) sh nd hg (by omega) (fun _ _ z => z)
      (fun h' u tk hk => ⟨.str _, H, I.kept (t' := tk) hk, ⟨u, rfl⟩, q⟩) sz
  | dict h1 h2 h3 h4 h5 =>
    exact repr_of_reads' (.dict h1 h2 h3 h4 h5) sh nd hg (by omega) (fun _ _ z => z)
      (fun h' u tk hk => ⟨.str _, H, I.kept (t' := tk) hk, ⟨u, rfl⟩, q⟩) sz

/-- a written list, its address not that of sys.modules -/
def tLstB (t : TA) : TE := fun σ H Q => t σ H fun xs H1 => xs.length ≤ sizeLine ∧ ∀ p, H1 p = none → p ≠ sysModules → Q (.ref p) (upd H1 p (.lst xs))
theorem pe_lstB {es : List Expr} {t : TA} {pos : Pos} (h : PA X es t) : PE X (.List es pos) (tLstB t) := by
  refine ⟨fun pins s σ H Q I hq => ?_⟩
  refine wpAny_List_spliced (thn (h.run pos pins s σ H _ I hq) ?_)
  rintro us s1 ⟨xs, H1, I1, r, z, q⟩
  have new : H1 s1.heap.objs.size = none := I1.hok.fresh (Nat.le_refl _)
  refine ⟨by rw [← r.length]; exact z, .ref s1.heap.objs.size, upd H1 s1.heap.objs.size (.lst xs), ?_, rfl, q _ new (Nat.ne_of_gt I1.big)⟩
  exact I1.laid (t' := s1.toks) (fun b u e => Heap.get?_push_of_some _ e) (Nat.le_refl _) ⟨z, us, 0, r, Heap.get?_push_size _ rfl⟩
end
end My
set_option maxHeartbeats 4000000
/-! own exceptions over any built-in base, made by place or by name, kept as values -/
namespace My
open PySem PySem.W PySem.Calls PyProof.Rows PySem.HandSPX

section
variable {M : Model} {A : Around} {E : Value → Shared → Prop} {h : Heap} {g : Array GenState} {d : Drawn} {t : Nat} {os : OsState}
variable {nm q : Str} {C N : Addr} {bs bm bmB : List Value} {hdct : Bool} {sn : List Str} {sub : List Value} {ab : Bool} {col : Option Bool} {dd : Option Addr}
  {k0 k1 k2 k3 k5 : Option Value} {B newId initId : String} {rest : List Value} {kw : List (Str × Value)}

/-- the mro behind the own class: it has the base that makes, and is no AttributeError, no NameError -/
structure Makes (bm : List Value) (B : String) : Prop where
  base : bm.contains (.type B) = true
  noAttr : bm.contains (.type "AttributeError") = false
  noName : bm.contains (.type "NameError") = false

theorem checkNew (F : ExcBaseFacts B newId initId bmB) (m : Makes bm B) {Q : Unit → Shared → Prop}
    (hC : h.get? C = some (excClassObj nm q C N bs bm hdct sn sub ab col dd k0 k1 k2 k3 k5 newId)) (hq : Q () ⟨h, g, d, t, os⟩) :
    wpAny M A (checkBuiltinCall newId ⟨.ref C :: rest, kw⟩) Q E ⟨h, g, d, t, os⟩ := by
  have has : (Value.ref C :: bm).contains (.type B) = true := by rw [List.contains_cons, m.base, Bool.or_true]
  have star := F.noStar
  simp only [checkBuiltinCall, F.newKind, F.newSplit, F.newRow]
  repeat (first
    | refine wpAny_loadPart_at hC ?_
    | (refine wpAny_isSubtype_exc hC ?_; rw [has])
    | refine wpAny_staticBase_exc hC ?_
    | refine wpAny_madeBy_exc hC ?_
    | simp only [bne_self_eq_false, Bool.false_eq_true, if_false]
    | wp_step)
  exact hq
end

section
variable {prog : Program} {w : World} {A : Around} {E : Value → Shared → Prop} {R : Result → Shared → Prop} {h : Heap} {g : Array GenState} {d : Drawn} {t : Nat} {os : OsState}
variable {nm q : Str} {C N fI : Addr} {bs bm bmB : List Value} {hdct : Bool} {sn : List Str} {sub : List Value} {ab : Bool} {col : Option Bool} {dd : Option Addr}
  {k0 k1 k2 k3 k5 : Option Value} {B newId initId : String} {rest : List Value} {kw : List (Str × Value)}

/-- the bare exception, its arguments laid before it -/
def bare2 (h : Heap) (C : Addr) (rest : List Value) : Heap := (h.push (kdv_tup rest)).push (excO C h.objs.size)
theorem bare2_keeps {b : Addr} {o : Obj} (e : h.get? b = some o) : (bare2 h C rest).get? b = some o :=
  Heap.get?_push_of_some _ (Heap.get?_push_of_some _ e)
theorem bare2_at : (bare2 h C rest).get? (h.objs.size + 1) = some (excO C h.objs.size) := by
  unfold bare2
  heap_get

theorem newOwn (F : ExcBaseFacts B newId initId bmB) (m : Makes bm B) (small : rest.length ≤ sizeLine)
    (hC : h.get? C = some (excClassObj nm q C N bs bm hdct sn sub ab col dd k0 k1 k2 k3 k5 newId))
    (hq : R (.ok (.ret (.ref (h.objs.size + 1)))) ⟨bare2 h C rest, g, d, t, os⟩) :
    codeAny (model prog w) A (.builtin newId ⟨.ref C :: rest, kw⟩) R ⟨h, g, d, t, os⟩ := by
  have ends := F.ends
  have has : ∀ {X : String} {b : Bool}, bm.contains (.type X) = b → (Value.ref C :: bm).contains (.type X) = b := fun {X b} e => by
    rw [List.contains_cons, e]
    rfl
  have isB := has m.base
  have noA := has m.noAttr
  have noN := has m.noName
  refine codeAny_builtinAt F.entry ?_
  unfold Builtin.«BaseException.__new__»
  refine PySem.wpAt_bind ?_
  show PySem.wpAt _ _ _ (stack >>= _) _ _ _
  refine PySem.wpAt_bind (PySem.wpAt_stack fun p below => PySem.wpAt_of_wpAny ?_)
  wp_walk
  refine PySem.wpAt_of_wpAny ?_
  rw [F.owner]
  repeat (first
    | with_reducible refine wpAny_madeHere_exc F.canon hC ?_
    | with_reducible refine wpAny_loadPart_at hC ?_
    | (with_reducible refine wpAny_isSubtype_exc hC ?_; first | rw [isB] | rw [noA] | rw [noN])
    | wp_step)
  show R _ _
  rw [Heap.size_push]
  exact hq

theorem typeCallOwn (F : ExcBaseFacts B newId initId bmB) (m : Makes bm B) (small : rest.length ≤ sizeLine) {Q : Fin → Shared → Prop}
    (hC : h.get? C = some (excClassObj nm q C N bs bm hdct sn sub ab col dd k0 k1 k2 k3 k5 newId))
    (hi : Looks (model prog w) h (typeLookup (.ref C) "__init__") (some (.ref fI)))
    (hb : ∀ self, Looks (model prog w) h (bindSpecial (.ref fI) self) (.ref fI, [self]))
    (hq : codeAny (model prog w) A (.call (.ref fI) ⟨.ref (h.objs.size + 1) :: rest, kw⟩)
      (fun r s' => match r with
        | .ok (.ret v) => v = .none ∧ Q (.done (.ret (.ref (h.objs.size + 1)))) s'
        | .ok _ => False
        | .error e => E e s') ⟨bare2 h C rest, g, d, t, os⟩) :
    wpAny (model prog w) A (Builtin.«type.__call__» ⟨.ref C :: rest, kw⟩) Q E ⟨h, g, d, t, os⟩ := by
  repeat (first
    | with_reducible refine wpAny_loadPart_at hC ?_
    | with_reducible refine wpAny_madeBy_exc hC ?_
    | wp_step)
  refine codeAny_call_builtin_code (Code.quiet_builtin _ F.quiet) (checkNew F m hC ?_)
  refine newOwn F m small hC ?_
  show wpAny _ _ _ _ _ _
  have hC1 : (bare2 h C rest).get? C = _ := bare2_keeps hC
  have at1 : (bare2 h C rest).get? (h.objs.size + 1) = some (excO C h.objs.size) := bare2_at
  have own : (Value.ref C :: bm).contains (.ref C) = true := by simp
  have i1 := hi.keeps (h' := bare2 h C rest) fun b o e => bare2_keeps e
  have b1 := (hb (.ref (h.objs.size + 1))).keeps (h' := bare2 h C rest) fun b o e => bare2_keeps e
  unfold isInstance
  repeat (first
    | with_reducible refine wpAny_loadPart_at at1 ?_
    | (with_reducible refine wpAny_isSubtype_exc hC1 ?_; rw [own])
    | wp_step)
  show wpAny _ _ (typeLookup (.ref C) _) _ _ _
  refine i1.at ?_
  refine wpAny_holding (wpAny_bind (b1.at ?_))
  refine wpAny_bind (wpAny_call (codeAny_mono hq fun r s' z => ?_))
  match r, z with
  | .error e, z => exact z
  | .ok (.ret v), z =>
    obtain ⟨rfl, z⟩ := z
    first
      | exact wpAny_pure (wpAny_pure z)
      | (wp_walk; exact z)
  | .ok .next, z => exact z.elim
  | .ok .brk, z => exact z.elim
  | .ok .cont, z => exact z.elim

theorem callOwn (F : ExcBaseFacts B newId initId bmB) (m : Makes bm B) (small : rest.length ≤ sizeLine)
    (hC : h.get? C = some (excClassObj nm q C N bs bm hdct sn sub ab col dd k0 k1 k2 k3 k5 newId))
    (hi : Looks (model prog w) h (typeLookup (.ref C) "__init__") (some (.ref fI)))
    (hb : ∀ self, Looks (model prog w) h (bindSpecial (.ref fI) self) (.ref fI, [self]))
    (hq : codeAny (model prog w) (A.under (.builtin "type.__call__" ⟨.ref C :: rest, kw⟩)) (.call (.ref fI) ⟨.ref (h.objs.size + 1) :: rest, kw⟩)
      (InitBack (h.objs.size + 1) R) ⟨bare2 h C rest, g, d, t, os⟩) :
    codeAny (model prog w) A (.call (.ref C) ⟨rest, kw⟩) R ⟨h, g, d, t, os⟩ := by
  have f1 := tc_lookup
  have f2 := tc_bind (.ref C)
  have isType : (⟨h, g, d, t, os⟩ : Shared).TypeIs (.ref C) "type" := ⟨_, hC, rfl⟩
  refine codeAny_of_tree ?_
  show wpAny _ _ (callAny (.ref C) _) _ _ _
  repeat (any_goals (first | assumption | with_reducible refine wpAny_loadPart_at hC ?_ | wp_step))
  refine ⟨rfl, ?_⟩
  refine codeAny_call_builtin_at (Code.quiet_builtin _ (by decide +kernel)) entry_typeCall
    (wpAny_check_type_call_sub hC (typeCallOwn F m small hC hi hb ?_))
  refine codeAny_mono hq fun r s' z => ?_
  match r, z with
  | .error e, z => exact z
  | .ok (.ret v), z => exact z
  | .ok .next, z => exact z
  | .ok .brk, z => exact z
  | .ok .cont, z => exact z
end
end My
set_option maxHeartbeats 4000000
/-! self.f = v on own exceptions over any built-in base -/
namespace My
open PySem PySem.W PySem.Calls PyProof.Rows PySem.HandSPX PySem.OEX

/-- what the store asks of the class's mro -/
structure MroOk (l : List Value) : Prop where
  ne : l.isEmpty = false
  obj : l.contains (.type "object") = true
  pass : ∀ self : Value, refuseLoop self "__setattr__" l = pure ()
theorem MroOk.cons {C : Addr} {l : List Value} (m : MroOk l) : MroOk (.ref C :: l) :=
  ⟨rfl, by rw [List.contains_cons, m.obj, Bool.or_true], fun self => by rw [refuseLoop_ref]; exact m.pass self⟩
theorem mroValue : MroOk [.type "ValueError", .type "Exception", .type "BaseException", .type "object"] :=
  ⟨rfl, by decide +kernel, fun self => by kernel_rfl⟩
theorem mroKey : MroOk [.type "KeyError", .type "LookupError", .type "Exception", .type "BaseException", .type "object"] :=
  ⟨rfl, by decide +kernel, fun self => by kernel_rfl⟩
theorem mroRuntime : MroOk [.type "RuntimeError", .type "Exception", .type "BaseException", .type "object"] :=
  ⟨rfl, by decide +kernel, fun self => by kernel_rfl⟩

section
open Builtin Builtin.ObjectAttr
variable {prog : Program} {w : World} {A : Around} {E : Value → Shared → Prop} {R : Result → Shared → Prop} {hp : Heap} {g : Array GenState} {d : Drawn} {t : Nat} {os : OsState}
variable {K : W.Frag} {name : Str} {tk : Tok} {v : Value} {x C dx : Addr} {fv : Array Value} {cd : ClassData}

/-- the first attribute: the exception gets its dict -/
theorem storeNew (inK : K.In hp) (hx : hp.get? x = some { cls := .ref C, data := .fields fv }) (hcd : W.clsIn K C = some cd) (m : MroOk cd.mro)
    (hh : cd.hasDict = true) (no : W.findIn K (.ref C) name = some none)
    (hq : ∀ h' tk' dx, (∀ b o, b ≠ x → hp.get? b = some o → h'.get? b = some o) → hp.objs.size ≤ dx → dx ≠ x →
      h'.get? x = some { cls := .ref C, dict := some dx, data := .fields fv } → h'.Ns1 dx (fun y => if y = name then some v else none) →
      R (.ok (.ret .none)) ⟨h', g, d, tk', os⟩) :
    codeAny (model prog w) A (.call (.builtin "object.__setattr__") ⟨[.ref x, .str name tk, v], []⟩) R ⟨hp, g, d, t, os⟩ := by
  have inst : W.InstAt hp x { cls := .ref C, data := .fields fv } C none := ⟨hx, rfl, rfl, trivial⟩
  have SF := F.store_object
  have apart : x ≠ hp.objs.size := Nat.ne_of_lt (Heap.lt_size hx)
  have sub : W.Looks (model prog w) hp (isInstance (.ref x) (.type "object")) true :=
    inst.type.andThen (W.looks_mroIn inK (by
      unfold W.mroIn
      rw [hcd, Option.bind_some, if_neg (by rw [m.ne]; decide), m.obj]))
  refine codeAny_call_builtin SF.slot.plain SF.entry (@W.check_slot (model prog w) _ _ ⟨hp, g, d, t, os⟩ "object.__setattr__" "object" "__setattr__"
    (.ref x) [.str name tk, v] [] _ SF.kind SF.split sub (SF.args (.ref x) (.str name tk) v) ?_)
  have mroL : W.Looks (model prog w) hp (mroOf (.ref C)) cd.mro := (W.looks_clsIn inK hcd).andThen .now
  have taker : W.Looks (model prog w) hp (storeTaker? none) none := .now
  have clsL : W.Looks (model prog w) hp (classData C) cd := W.looks_clsIn inK hcd
  rw [W.osa_eq, refuse_eq]
  refine wpAny_bind (wpAny_bind (inst.type.at (wpAny_bind (mroL.at ?_))))
  rw [m.pass]
  refine wpAny_pure (wpAny_bind (inst.type.at (wpAny_bind ((W.looks_findIn inK no).at (wpAny_bind (taker.at ?_))))))
  show wpAny _ _ (storeInOwnDict (.ref x) (.ref C) (.str name tk) name v false) _ _ _
  obtain ⟨nm, bs, mro, ns, qn, hd, sn, sb, ab, col, del⟩ := cd
  dsimp only at hh
  subst hh
  unfold storeInOwnDict ownDictForStores
  repeat (first
    | with_reducible refine store_in_new ?_ ?_
    | with_reducible refine wpAny_loadPart_at hx ?_
    | with_reducible refine clsL.at ?_
    | wp_step)
  · exact ⟨_, #[], _, (Heap.get?_update_ne _ _ _ _ apart.symm).trans (Heap.get?_push_at rfl rfl), rfl, fun e he => absurd he (by simp), fun _ => rfl⟩
  · intro h' tk' hn' hs
    have hx1 : (hp.push { cls := .type "dict", data := .dict #[] }).get? x = some { cls := .ref C, data := .fields fv } := Heap.get?_push_of_some _ hx
    refine hq h' tk' hp.objs.size (fun b o hb ho => ?_) (Nat.le_refl _) apart.symm ?_ hn'
    · exact (hs.2 b (Nat.ne_of_lt (Heap.lt_size ho))).trans ((Heap.get?_update_ne _ _ _ _ hb).trans (Heap.get?_push_of_some _ ho))
    · exact (hs.2 x apart).trans (Heap.get?_update_self _ hx1 rfl)

/-- a further attribute -/
theorem storeMore {m0 : Str → Option Value} {nl : List Str} (inK : K.In hp) (hx : hp.get? x = some { cls := .ref C, dict := some dx, data := .fields fv })
    (hns : hp.Ns1 dx m0) (hw : Within m0 nl) (few : nl.length ≤ 1000) (hcd : W.clsIn K C = some cd) (m : MroOk cd.mro) (hh : cd.hasDict = true)
    (no : W.findIn K (.ref C) name = some none)
    (hq : ∀ h' tk', (∀ b o, b ≠ dx → hp.get? b = some o → h'.get? b = some o) → h'.Ns1 dx (fun y => if y = name then some v else m0 y) →
      R (.ok (.ret .none)) ⟨h', g, d, tk', os⟩) :
    codeAny (model prog w) A (.call (.builtin "object.__setattr__") ⟨[.ref x, .str name tk, v], []⟩) R ⟨hp, g, d, t, os⟩ := by
  obtain ⟨oD, esD, epD, hoD, hdD, _⟩ := hns.count hw
  have inst : W.InstAt hp x { cls := .ref C, dict := some dx, data := .fields fv } C (some oD) := ⟨hx, rfl, rfl, hoD⟩
  have SF := F.store_object
  have sub : W.Looks (model prog w) hp (isInstance (.ref x) (.type "object")) true :=
    inst.type.andThen (W.looks_mroIn inK (by
      unfold W.mroIn
      rw [hcd, Option.bind_some, if_neg (by rw [m.ne]; decide), m.obj]))
  refine codeAny_call_builtin SF.slot.plain SF.entry (@W.check_slot (model prog w) _ _ ⟨hp, g, d, t, os⟩ "object.__setattr__" "object" "__setattr__"
    (.ref x) [.str name tk, v] [] _ SF.kind SF.split sub (SF.args (.ref x) (.str name tk) v) ?_)
  have mroL : W.Looks (model prog w) hp (mroOf (.ref C)) cd.mro := (W.looks_clsIn inK hcd).andThen .now
  have taker : W.Looks (model prog w) hp (storeTaker? none) none := .now
  have clsL : W.Looks (model prog w) hp (classData C) cd := W.looks_clsIn inK hcd
  rw [W.osa_eq, refuse_eq]
  refine wpAny_bind (wpAny_bind (inst.type.at (wpAny_bind (mroL.at ?_))))
  rw [m.pass]
  refine wpAny_pure (wpAny_bind (inst.type.at (wpAny_bind ((W.looks_findIn inK no).at (wpAny_bind (taker.at ?_))))))
  show wpAny _ _ (storeInOwnDict (.ref x) (.ref C) (.str name tk) name v false) _ _ _
  obtain ⟨nm, bs, mro, ns, qn, hd, sn, sb, ab, col, del⟩ := cd
  dsimp only at hh
  subst hh
  unfold storeInOwnDict ownDictForStores
  repeat (first
    | with_reducible refine store_in_old hns hw few ?_
    | with_reducible refine wpAny_loadPart_at hx ?_
    | with_reducible refine clsL.at ?_
    | wp_step)
  intro h' tk' hn' hs
  exact hq h' tk' (fun b o hb ho => (hs.2 b hb).trans ho) hn'
end
end My
set_option maxHeartbeats 4000000
/-! own exceptions made as values, by place or by name; their __init__ walked as a def -/
namespace My
open PySem PySem.Spec PyProof.Rows L2

/-- what the written part says of an own exception class, whatever built-in it stands on -/
structure ExG (K : PySem.W.Frag) (C : Addr) : Prop where
  cls : ∃ nm q N bs bm sn sub ab col dd k0 k1 k2 k3 k5 B newId initId bmB,
    K.lookup C = some (excClassObj nm q C N bs bm true sn sub ab col dd k0 k1 k2 k3 k5 newId) ∧ ExcBaseFacts B newId initId bmB ∧ Makes bm B ∧ MroOk bm
  sa : PySem.W.findIn K (.ref C) "__setattr__" = some (some (.builtin "object.__setattr__"))
  kC : PySem.W.keepIn K (.ref C) = true

section
variable {X : Cx} {pins : List (Addr × Obj)} {σ : L2.St} {H : Hp} {s : Shared} {a C dx : Addr} {f : Str} {y : V} {u : Value} {fs : List (Str × V)}
  {Q : Unit → Shared → Prop} {E : Value → Shared → Prop} {A : Around}
/-- a heap may be read without one object that is new -/
theorem Inv.grow {h' : Heap} {b : Addr} {o : HO} {t' : Nat} {G : Heap} (I : Inv X pins σ H { s with heap := G }) (k : ∀ c u, G.get? c = some u → h'.get? c = some u)
    (gone : G.get? b = none) (hn : H b = none) (new : ObjOk X.prog X.w (upd H b o) h' b o) : Inv X pins σ (upd H b o) { s with heap := h', toks := t' } :=
  L2.Inv.laidN (s := { s with heap := G }) I k gone hn new

theorem selfNew (T : ExG X.K C) (I : Inv X pins σ H s) (e : H a = some (exo a C none)) (no : PySem.W.findIn X.K (.ref C) f = some none) (ry : L2.RelV y u)
    (h : ∀ dx s', H dx = none → dx ≠ a → Inv X pins σ (upd (upd H a (exo a C (some dx))) dx (exd dx [(f, y)])) s' → Q () s') :
    wpAny (model X.prog X.w) A (setAttr (.ref a) f u) Q E s := by
  obtain ⟨nm, q, N, bs, bm, sn, sub, ab, col, dd, k0, k1, k2, k3, k5, B, newId, initId, bmB, hC, _, _, mro⟩ := T.cls
  have hcl : PySem.W.clsIn X.K C = some { name := nm, bases := bs, mro := .ref C :: bm, ns := N, qualname := q, hasDict := true, slotNames := sn, subclasses := sub, abstract := ab, collection := col, hasDel := false } := by
    unfold PySem.W.clsIn
    rw [hC]
    all_goals rfl
  obtain ⟨t1, ho⟩ := exo_at I.hok e
  have I0 := I
  obtain ⟨hp, g, d, t, os⟩ := s
  refine PySem.W.set_plain I.kIn (ox := { cls := .ref C, dict := none, data := .fields #[.ref t1, .none, .none, .none, .bool false, .none] }) (od := none) ⟨ho, rfl, rfl, trivial⟩ T.sa ?_
  refine storeNew I.kIn ho hcl mro.cons rfl no (fun h' tk' dx k dn dne hx hn => ?_)
  have hnd : H dx = none := I.hok.fresh dn
  obtain ⟨G, g1, g2⟩ := restrict h' fun b => decide (b ≠ dx)
  have same : ∀ b, b ≠ dx → G.get? b = h'.get? b := fun b hb => g1 b (decide_eq_true hb)
  have gone : G.get? dx = none := g2 dx (by simp)
  have sub' : ∀ c o, G.get? c = some o → h'.get? c = some o := fun c o z => by
    by_cases hc : c = dx
    · rw [hc, gone] at z
      cases z
    · rw [← same c hc]
      exact z
  have old : ∀ c o, hp.get? c = some o → c ≠ dx := fun c o z => Nat.ne_of_lt (Nat.lt_of_lt_of_le (Heap.lt_size z) dn)
  have hxG : G.get? a = some { cls := .ref C, dict := some dx, data := .fields #[.ref t1, .none, .none, .none, .bool false, .none] } := by
    rw [same a (Ne.symm dne)]
    exact hx
  have I1 : Inv X pins σ (upd H a (exo a C (some dx))) { (⟨hp, g, d, t, os⟩ : Shared) with heap := G, toks := tk' } :=
    I0.write (t' := tk') (x := a) (e := a) (o := exo a C (some dx)) (by rw [e]; exact True.intro) (.inl rfl)
      (fun b o hb z => by rw [same b (old b o z)]; exact k b o hb z) ⟨_, hxG⟩ (exo_ok hxG)
  have hn1 : upd H a (exo a C (some dx)) dx = none := by
    rw [upd_ne dne]
    exact hnd
  exact h dx _ hnd dne (L2.Inv.laidN (s := { (⟨hp, g, d, t, os⟩ : Shared) with heap := G, toks := tk' }) (t' := tk') I1 sub' gone hn1
    (exd_ok hn (relO_put (fs := []) ry fun g => True.intro)))

theorem selfMore (T : ExG X.K C) (I : Inv X pins σ H s) (e : H a = some (exo a C (some dx))) (ed : H dx = some (exd dx fs)) (few : fs.length ≤ 900)
    (no : PySem.W.findIn X.K (.ref C) f = some none) (ry : L2.RelV y u) (h : ∀ s', Inv X pins σ (upd H dx (exd dx ((f, y) :: fs))) s' → Q () s') :
    wpAny (model X.prog X.w) A (setAttr (.ref a) f u) Q E s := by
  obtain ⟨nm, q, N, bs, bm, sn, sub, ab, col, dd, k0, k1, k2, k3, k5, B, newId, initId, bmB, hC, _, _, mro⟩ := T.cls
  have hcl : PySem.W.clsIn X.K C = some { name := nm, bases := bs, mro := .ref C :: bm, ns := N, qualname := q, hasDict := true, slotNames := sn, subclasses := sub, abstract := ab, collection := col, hasDel := false } := by
    unfold PySem.W.clsIn
    rw [hC]
    all_goals rfl
  obtain ⟨t1, ho⟩ := exo_at I.hok e
  obtain ⟨mA, hns, rel⟩ := exd_at I.hok ed
  have hw := within_of rel
  have I0 := I
  obtain ⟨hp, g, d, t, os⟩ := s
  obtain ⟨oD, _, _, hoD, _, _⟩ := hns.count hw
  refine PySem.W.set_plain I.kIn (ox := { cls := .ref C, dict := some dx, data := .fields #[.ref t1, .none, .none, .none, .bool false, .none] }) (od := some oD) ⟨ho, rfl, rfl, hoD⟩ T.sa ?_
  refine storeMore I.kIn ho hns hw (by rw [List.length_map]; omega) hcl mro.cons rfl no (fun h' tk' k hn => ?_)
  have hd : ∃ o, h'.get? dx = some o := by
    obtain ⟨o, _, _, e', _⟩ := hn
    exact ⟨o, e'⟩
  exact h _ (I0.write (t' := tk') (x := dx) (e := dx) (o := exd dx ((f, y) :: fs)) (by rw [ed]; exact True.intro) (.inl rfl) k hd (exd_ok hn (relO_put ry rel)))
end

/-- self.f = e -/
def tSelf (K : PySem.W.Frag) (f : Str) (to te : TE) : TS := fun D σ H => te σ H fun y H1 => to σ H1 fun x H2 => ∃ a C : Addr, x = .ref a ∧ ExG K C ∧ PySem.W.findIn K (.ref C) f = some none ∧
  ((H2 a = some (exo a C none) ∧ ∀ dx, H2 dx = none → dx ≠ a → D.nx σ (upd (upd H2 a (exo a C (some dx))) dx (exd dx [(f, y)]))) ∨
    ∃ (dx : Addr) (fs : List (Str × V)), H2 a = some (exo a C (some dx)) ∧ H2 dx = some (exd dx fs) ∧ fs.length ≤ 900 ∧ D.nx σ (upd H2 dx (exd dx ((f, y) :: fs))))
section
variable {X : Cx} {o e : Expr} {to te : TE} {f : Str} {p' pos : Pos}
theorem ps_self (ho : PE X o to) (he : PE X e te) (hs : swapsWith e (some (.Attribute o f p')) pos.line X.env = pure false := by rfl) :
    PS X (.Assign [.Attribute o f p'] e pos) (tSelf X.K f to te) := by
  refine ⟨fun pins s σ H D I h => ?_⟩
  refine plainObj_wpAny_Assign_Attribute (thn (he.run pins s σ H _ I h) ?_) hs
  rintro v s1 ⟨y, H1, I1, r1, q1⟩
  refine thn (ho.run pins s1 σ H1 _ I1 q1) ?_
  rintro u s2 ⟨x, H2, I2, r2, a, C, ex, T, no, q⟩
  subst ex
  obtain rfl : u = Value.ref a := r2
  rcases q with ⟨ea, q⟩ | ⟨dx, fs, ea, ed, few, q⟩
  · exact selfNew T I2 ea no r1 fun dx s' n ne J => ⟨σ, _, J, q dx n ne⟩
  · exact selfMore T I2 ea ed few no r1 fun s' J => ⟨σ, _, J, q⟩
end

/-! ### C(e, ..), C(.., k = v) as a value -/
def tMadeK (C : Addr) (n m : Nat) (sp : Sp) (gV : List V → List V → List V) (t tk : TA) : TE := fun σ H Q => t σ H fun vs H1 => tk σ H1 fun zs H2 => vs.length = n ∧ zs.length = m ∧ n ≤ 1000 ∧
  ∀ a, H2 a = none → sp (gV (.ref a :: vs) zs) (upd H2 a (exo a C none)) (fun v H3 => v = .non ∧ Q (.ref a) H3) (fun _ _ _ => False)
section
variable {X : Cx} {CX : CXT} {k n : Nat} {fI C : Addr} {fd : FuncData} {ps ks : List Str} {sp : Sp} {x : Str} {p pos : Pos} {e : Expr} {es : List Expr} {kws : List Keyword}
  {t tk : TA} {g : List Value → List Value → List Value} {gV : List V → List V → List V}
theorem runMade {pins : List (Addr × Obj)} {σ : L2.St} {H : Hp} {s : Shared} {Q : VK} {us ws : List Value} {vs zs : List V} (T : ExG X.K C)
    (iC : PySem.W.findIn X.K (.ref C) "__init__" = some (some (.ref fI))) (tI : PySem.W.typeIn X.K (.ref fI) = some (.type "function"))
    (F : FnOk X.prog X.w X.K X.mg X.base CX k fI fd ps sp) (hr : Room (k + 1) X.A) (hb : KBn X.K fd ps (n + 1) ks g gV) (hx : Passes CX X (fun _ _ _ => False))
    (I : Inv X pins σ H s) (r : Vals vs us) (rz : Vals zs ws) (l1 : vs.length = n) (l2 : zs.length = ks.length) (few : n ≤ 1000)
    (h : ∀ a, H a = none → sp (gV (.ref a :: vs) zs) (upd H a (exo a C none)) (fun v H3 => v = .non ∧ Q (.ref a) H3) (fun _ _ _ => False)) :
    wpAny (model X.prog X.w) X.A (call (.ref C) us (ks.zip ws)) (EP X pins σ Q) X.xe s := by
  obtain ⟨nm, q, N, bs, bm, sn, sub, ab, col, dd, k0, k1, k2, k3, k5, B, newId, initId, bmB, hC, FB, mk, _⟩ := T.cls
  obtain ⟨hp, gg, dr, tok, os⟩ := s
  have sz : hp.objs.size ≤ hp.objs.size + 1 := Nat.le_succ _
  have hq := h (hp.objs.size + 1) (I.hok.fresh sz)
  have I2 : Inv X pins σ (upd H (hp.objs.size + 1) (exo (hp.objs.size + 1) C none)) ⟨bare2 hp C us, gg, dr, tok, os⟩ :=
    I.laid (t' := tok) (a := hp.objs.size + 1) (o := exo (hp.objs.size + 1) C none) (h' := bare2 hp C us) (fun b o z => bare2_keeps z) sz (exo_ok bare2_at)
  have r1 : Vals (V.ref (hp.objs.size + 1) :: vs) (Value.ref (hp.objs.size + 1) :: us) := .cons rfl r
  have r2 := hb.rel r1 rz
  have n1 : (Value.ref (hp.objs.size + 1) :: us).length = n + 1 := by
    rw [List.length_cons, ← r.length, l1]
  have small : us.length ≤ sizeLine := by
    rw [← Paired.length r, l1, sizeLine_eq]
    omega
  refine wpAny_call (callOwn FB mk small (I.kIn _ _ hC) (PySem.W.looks_findIn I.kIn iC) (fun self => PySem.W.bind_fn I.kIn self tI)
    (codeAny_mono (F.run _ X.stack _ _ ⟨Value.ref (hp.objs.size + 1) :: us, ks.zip ws⟩ (g (Value.ref (hp.objs.size + 1) :: us) ws) _ _ (fun _ _ _ => False)
      (hr.make C us (ks.zip ws)) (I2.env0.make C us (ks.zip ws)) (hb.to _ (Value.ref (hp.objs.size + 1) :: us) ws I2.kIn n1 (rz.length.symm.trans l2)) r2 hq) fun r s' hq' => ?_))
  match r, hq' with
  | .error e, hq' => exact hx pins σ _ _ e s' I2 hq'
  | .ok (.ret u), hq' =>
    obtain ⟨v, H', I3, rv, ev, q3⟩ := I2.after hq'
    subst ev
    exact ⟨rv, ⟨V.ref (hp.objs.size + 1), H', I3, rfl, q3⟩⟩
  | .ok .next, hq' => exact False.elim hq'
  | .ok .brk, hq' => exact False.elim hq'
  | .ok .cont, hq' => exact False.elim hq'

theorem pe_madeK0 (T : ExG X.K C) (iC : PySem.W.findIn X.K (.ref C) "__init__" = some (some (.ref fI))) (tI : PySem.W.typeIn X.K (.ref fI) = some (.type "function"))
    (F : FnOk X.prog X.w X.K X.mg X.base CX k fI fd ps sp) (hr : Room (k + 1) X.A) (hg : Gl X x) (hm : X.mg x = some (.ref C)) (hb : KBn X.K fd ps 1 ks g gV)
    (hx : Passes CX X (fun _ _ _ => False)) (hkw : PK X kws tk) (hall : (backToKw pos (keywordEach kws X.env)).all (·.1.isSome) = true := by rfl)
    (hks : (backToKw pos (keywordEach kws X.env)).filterMap (·.1) = ks := by rfl) (hdb : (x == ("__debug__" : Str)) = false := by decide)
    (hpl : ((backTo pos (starEach [] X.env)).any (·.1) || (backToKw pos (keywordEach kws X.env)).any (·.1.isNone)) = false := by rfl) :
    PE X (.Call (.Name x p) [] kws pos) (tMadeK C 0 ks.length sp gV tNil tk) := by
  refine ⟨fun pins s σ H Q I h => ?_⟩
  refine wpAny_Call_Name_kw (ld_glob I hg hm ?_ hdb)
  refine PySem.W.callWith_KW0 (h₀ := X.base) I.ok.mod.kin T.kC hall ?_ hpl
  refine thn (hkw.run pos pins s σ H _ I h) ?_
  rintro ws s2 ⟨zs, H2, I2, rz, l1, l2, l3, q2⟩
  refine ⟨I2.kIn, ?_⟩
  rw [hks]
  exact runMade (us := []) (vs := []) T iC tI F hr hb hx I2 .nil rz rfl l2 l3 q2

theorem pe_madeK (T : ExG X.K C) (iC : PySem.W.findIn X.K (.ref C) "__init__" = some (some (.ref fI))) (tI : PySem.W.typeIn X.K (.ref fI) = some (.type "function"))
    (F : FnOk X.prog X.w X.K X.mg X.base CX k fI fd ps sp) (hr : Room (k + 1) X.A) (hg : Gl X x) (hm : X.mg x = some (.ref C)) (hb : KBn X.K fd ps (n + 1) ks g gV)
    (hx : Passes CX X (fun _ _ _ => False)) (ha : PA X (e :: es) t) (hkw : PK X kws tk) (hall : (backToKw pos (keywordEach kws X.env)).all (·.1.isSome) = true := by rfl)
    (hks : (backToKw pos (keywordEach kws X.env)).filterMap (·.1) = ks := by rfl) (hdb : (x == ("__debug__" : Str)) = false := by decide)
    (he : starEach (e :: es) X.env = (false, eval e X.env) :: starEach es X.env := by rfl)
    (hpl : ((backTo pos (starEach (e :: es) X.env)).any (·.1) || (backToKw pos (keywordEach kws X.env)).any (·.1.isNone)) = false := by rfl) :
    PE X (.Call (.Name x p) (e :: es) kws pos) (tMadeK C n ks.length sp gV t tk) := by
  refine ⟨fun pins s σ H Q I h => ?_⟩
  refine wpAny_Call_Name_kw (ld_glob I hg hm ?_ hdb)
  refine PySem.W.callWith_KW (h₀ := X.base) I.ok.mod.kin T.kC hall (thn (ha.run pos pins s σ H _ I h) ?_) hpl he
  rintro us s1 ⟨vs, H1, I1, r, q⟩
  refine thn (hkw.run pos pins s1 σ H1 _ I1 q) ?_
  rintro ws s2 ⟨zs, H2, I2, rz, l1, l2, l3, q2⟩
  refine ⟨I2.kIn, ?_⟩
  rw [hks]
  exact runMade T iC tI F hr hb hx I2 r rz l1 l2 l3 q2
end
end My
set_option maxHeartbeats 4000000
/-! own exceptions as values: an attribute read, isinstance asked -/
namespace My
open PySem PySem.Spec PyProof.Rows L2

/-- what the class says of attributes read and of isinstance -/
structure ExR (K : PySem.W.Frag) (C : Addr) : Prop where
  ga : PySem.W.findIn K (.ref C) "__getattribute__" = some (some (.builtin "BaseException.__getattribute__"))
  gg : PySem.W.findIn K (.ref C) "__getattr__" = some none
  exC : PySem.W.subIn K (.ref C) (.type "BaseException") = some true
  hd : PySem.W.hasDictIn K C = true
  ha : PySem.W.findIn K (.ref C) "__class__" = some (some (.builtin "object.__class__"))
  hn : PySem.W.specialIn K (.builtin "object.__class__") "__get__" = some (some (.builtin "getset_descriptor.__get__"))
  ht : PySem.W.takesIn K (.builtin "object.__class__") = some true
  hm : PySem.W.mroIn K C (.type "object") = some true

/-- e.f, e an exception that has it -/
def tExAt (K : PySem.W.Frag) (f : Str) (te : TE) : TE := fun σ H Q => te σ H fun x H1 => ∃ (a C dx : Addr) (fs : List (Str × V)) (v : V), x = .ref a ∧ ExR K C ∧
  PySem.W.findIn K (.ref C) f = some none ∧ H1 a = some (exo a C (some dx)) ∧ H1 dx = some (exd dx fs) ∧ fs.lookup f = some v ∧ Q v H1
section
variable {X : Cx} {e : Expr} {te : TE} {f : Str} {pos : Pos}
theorem pe_exAt (he : PE X e te) (hb : attributeBase e f X.env (eval e X.env) = eval e X.env := by rfl) : PE X (.Attribute e f pos) (tExAt X.K f te) := by
  refine ⟨fun pins s σ H Q I h => ?_⟩
  refine attr_of hb (thn (he.run pins s σ H _ I h) ?_)
  rintro u s1 ⟨x, H1, I1, rx, a, C, dx, fs, v, ex, R, no, ea, ed, el, q⟩
  subst ex
  obtain rfl : u = Value.ref a := rx
  obtain ⟨t1, ho⟩ := exo_at I1.hok ea
  obtain ⟨mA, hns, rel⟩ := exd_at I1.hok ed
  obtain ⟨od, hod, hl⟩ := lookIn_ns hns
  obtain ⟨u', hu, ru⟩ := RelO.some_of (v := v) (o := mA f) (by rw [← el]; exact rel f)
  have J : PySem.W.InstAt s1.heap a { cls := .ref C, dict := some dx, data := .fields #[.ref t1, .none, .none, .none, .bool false, .none] } C (some od) := ⟨ho, rfl, rfl, hod⟩
  exact HandSPX.exc_get I1.kIn J R.ga R.gg R.exC (PySem.W.findObj_own R.hd no rfl (by rw [hl, hu])) (handed_of ru) ⟨v, H1, I1.tok _, ru, q⟩

/-- isinstance(e, c), e an exception kept as a value -/
def rIsX (K : PySem.W.Frag) : List V → Hp → VK → Prop := fun xs H Q => ∃ (a D : Addr) (d : Option Addr) (c : V) (cv : Value) (b : Bool), xs = [.ref a, c] ∧ ExR K D ∧
  H a = some (exo a D d) ∧ (∀ dx, d = some dx → ∃ fs, H dx = some (exd dx fs)) ∧ ClsV c cv ∧ PySem.W.kitOne K (.ref D) cv = some b ∧ Q (.bl b) H
theorem call_isX : CallR X (.builtin "isinstance") (rIsX X.K) := by
  intro pins s σ H xs us Q I r h
  obtain ⟨a, D, d, c, cv, b, rfl, R, ea, ed, hc, e, q⟩ := h
  obtain ⟨u1, u2, rfl, r1, r2⟩ := vals2 r
  obtain rfl : u1 = Value.ref a := r1
  have e2 := hc.eq r2
  subst e2
  obtain ⟨t1, ho⟩ := exo_at I.hok ea
  obtain ⟨cdD, hcD, _⟩ := PySem.W.any_some R.hd
  have isCls : (PySem.W.clsIn X.K D).isSome = true := by
    rw [hcD]
    rfl
  have done : ∀ tk, EP X pins σ Q (.bool b) { s with toks := tk } := fun tk => ⟨.bl b, H, I.tok _, rfl, q⟩
  cases d with
  | none =>
    have J : PySem.W.InstAt s.heap a { cls := .ref D, dict := none, data := .fields #[.ref t1, .none, .none, .none, .bool false, .none] } D none := ⟨ho, rfl, rfl, trivial⟩
    exact PySem.W.kia_one (PySem.W.kitx_exc isCls R.ga R.gg R.exC R.ha R.hn R.ht R.hm) I.kIn J e (fun z => nomatch z) done
  | some dx =>
    obtain ⟨fs, ed'⟩ := ed dx rfl
    obtain ⟨mA, hns, rel⟩ := exd_at I.hok ed'
    obtain ⟨od, hod, hl⟩ := lookIn_ns hns
    have J : PySem.W.InstAt s.heap a { cls := .ref D, dict := some dx, data := .fields #[.ref t1, .none, .none, .none, .bool false, .none] } D (some od) := ⟨ho, rfl, rfl, hod⟩
    exact PySem.W.kia_one (PySem.W.kitx_exc isCls R.ga R.gg R.exC R.ha R.hn R.ht R.hm) I.kIn J e (fun z => nomatch z) done
end
end My
set_option maxHeartbeats 4000000
/-! the __init__ of own exceptions, by their shapes -/
namespace My
open PySem PySem.Spec PyProof.Rows L2

theorem visOf {N ps : List Str} {sc : Scope} (S : FnScope N ps sc) {x : Str} (h : x ∈ ps) : Vis sc x := by
  rcases S.par x h with k | k
  · exact .inl k
  · exact .inr (.inl k)

/-- one attribute: self.f = f -/
def spOne (C : Addr) (f : Str) : Sp := fun vs H Q _ => ∃ (a : Addr) (v : V), vs = [.ref a, v] ∧ H a = some (exo a C none) ∧
  ∀ dx, H dx = none → dx ≠ a → Q .non (upd (upd H a (exo a C (some dx))) dx (exd dx [(f, v)]))
/-- two: self.f = f, self.g = g -/
def spTwo (C : Addr) (f g : Str) : Sp := fun vs H Q _ => ∃ (a : Addr) (v u : V), vs = [.ref a, v, u] ∧ H a = some (exo a C none) ∧
  ∀ dx, H dx = none → dx ≠ a → Q .non (upd (upd (upd H a (exo a C (some dx))) dx (exd dx [(f, v)])) dx (exd dx [(g, u), (f, v)]))
/-- none: B.__init__(self, a text) -/
def spNil (C : Addr) : Sp := fun vs H Q _ => ∃ a : Addr, vs = [.ref a] ∧ H a = some (exo a C none) ∧ Q .non H

section
variable {P : Program} {w : World} {K : PySem.W.Frag} {mg : Str → Option Value} {base : Heap} {st : Stmt} {qual f g : Str} {C fI : Addr} {fd : FuncData}
theorem ok_one (F : Fun K "__init__" qual st fI fd) (S : FnScope ["self", f] ["self", f] (defScope st))
    (hb : ∃ p1 p2 p3 p4, defBody st = [.Assign [.Attribute (.Name "self" p1) f p2] (.Name f p3) p4])
    (hf : (f == ("__debug__" : Str)) = false) (hf2 : (f == ("__classdict__" : Str)) = false) (T : ExG K C) (no : PySem.W.findIn K (.ref C) f = some none) :
    FnOk P w K mg base CX0 1 fI fd ["self", f] (spOne C f) := by
  obtain ⟨p1, p2, p3, p4, hb⟩ := hb
  refine F.ok S (fun vs H Q E h => ?_) (fun cdv A outer s H vs Q E hr h => ?_)
  · obtain ⟨a, v, rfl, _⟩ := h
    rfl
  · obtain ⟨a, v, rfl, ha, k⟩ := h
    rw [hb]
    refine ⟨_, pss_one (ps_self (pv 0 (hv := visOf S (by simp))) (pv 1 (hv := visOf S (by simp)) (hd := hf) (hcd := hf2))), ?_⟩
    exact ⟨v, rfl, .ref a, rfl, a, C, rfl, T, no, .inl ⟨ha, fun dx n ne => k dx n ne⟩⟩
theorem ok_two (F : Fun K "__init__" qual st fI fd) (S : FnScope ["self", f, g] ["self", f, g] (defScope st))
    (hb : ∃ p1 p2 p3 p4 q1 q2 q3 q4, defBody st = [.Assign [.Attribute (.Name "self" p1) f p2] (.Name f p3) p4, .Assign [.Attribute (.Name "self" q1) g q2] (.Name g q3) q4])
    (hf : (f == ("__debug__" : Str)) = false) (hf2 : (f == ("__classdict__" : Str)) = false) (hg : (g == ("__debug__" : Str)) = false) (hg2 : (g == ("__classdict__" : Str)) = false)
    (T : ExG K C) (no : PySem.W.findIn K (.ref C) f = some none) (no2 : PySem.W.findIn K (.ref C) g = some none) :
    FnOk P w K mg base CX0 1 fI fd ["self", f, g] (spTwo C f g) := by
  obtain ⟨p1, p2, p3, p4, q1, q2, q3, q4, hb⟩ := hb
  refine F.ok S (fun vs H Q E h => ?_) (fun cdv A outer s H vs Q E hr h => ?_)
  · obtain ⟨a, v, u, rfl, _⟩ := h
    rfl
  · obtain ⟨a, v, u, rfl, ha, k⟩ := h
    rw [hb]
    refine ⟨_, pss_cons (ps_self (pv 0 (hv := visOf S (by simp))) (pv 1 (hv := visOf S (by simp)) (hd := hf) (hcd := hf2)))
      (pss_one (ps_self (pv 0 (hv := visOf S (by simp))) (pv 2 (hv := visOf S (by simp)) (hd := hg) (hcd := hg2)))), ?_⟩
    refine ⟨v, rfl, .ref a, rfl, a, C, rfl, T, no, .inl ⟨ha, fun dx n ne => ?_⟩⟩
    exact ⟨u, rfl, .ref a, rfl, a, C, rfl, T, no2, .inr ⟨dx, _, by rw [upd_ne (Ne.symm ne), upd_same], upd_same, by simp, k dx n ne⟩⟩
end

/-! ### RuntimeError.__init__(self, ..) -/
theorem typRE : typeOf (.type "RuntimeError") = pure (.type "type") := by kernel_rfl
structure ExRt (K : PySem.W.Frag) (C : Addr) : Prop where
  cls : ∃ nm q N bs sn sub ab col dd k0 k1 k2 k3 k5, K.lookup C = some (excClassObj nm q C N bs [.type "RuntimeError", .type "Exception", .type "BaseException", .type "object"] true sn sub ab col dd k0 k1 k2 k3 k5 "RuntimeError.__new__")
section
variable {X : Cx} {pins : List (Addr × Obj)} {σ : L2.St} {H : Hp} {s : Shared} {a C : Addr} {A : Around} {E : Value → Shared → Prop}
theorem initRt {us : List Value} {Q : Value → Shared → Prop} (T : ExRt X.K C) (I : Inv X pins σ H s) (e : H a = some (exo a C none)) (hl : us.length ≤ sizeLine)
    (h : ∀ s', Inv X pins σ H s' → Q .none s') : wpAny (model X.prog X.w) A (call (.builtin "RuntimeError.__init__") (.ref a :: us)) Q E s := by
  obtain ⟨nm, q, N, bs, sn, sub, ab, col, dd, k0, k1, k2, k3, k5, hC⟩ := T.cls
  obtain ⟨t1, ho⟩ := exo_at I.hok e
  have I0 := I
  obtain ⟨hp, g, d, t, os⟩ := s
  refine wpAny_call (PySem.HandSPX.init_base F.excBase_RuntimeError (fun Y => rfl) (I.kIn _ _ hC) ho hl fun h' t2 k hx => ?_)
  have J := I0.write (t' := t) (x := a) (e := a) (o := exo a C none) (by rw [e]; exact True.intro) (.inl rfl) k ⟨_, hx⟩ (exo_ok hx)
  have eu : upd H a (exo a C none) = H := by
    funext b
    by_cases hb : b = a
    · rw [hb, upd_same, e]
    · rw [upd_ne hb]
  rw [eu] at J
  exact h _ J
end
def tRtI (K : PySem.W.Frag) (ta : TA) : TE := fun σ H Q => ta σ H fun vs H1 => ∃ (a C : Addr) (ws : List V), vs = .ref a :: ws ∧ ws.length ≤ 1000 ∧ ExRt K C ∧ H1 a = some (exo a C none) ∧ Q .non H1
section
variable {X : Cx} {e : Expr} {es : List Expr} {ta : TA} {p1 p2 pos : Pos}
theorem pe_rtinit {pl : Sem Bool} (hg : Gl X "RuntimeError") (hm : X.mg "RuntimeError" = none)
    (vV : PySem.W.findCls X.K (.type "RuntimeError") (.type "type") "__init__" = some (.val (.builtin "RuntimeError.__init__"))) (ha : PA X (e :: es) ta)
    (hc : eval (.Call (.Attribute (.Name "RuntimeError" p1) "__init__" p2) (e :: es) [] pos) X.env = (do
      let ov ← eval (.Name "RuntimeError" p1) X.env
      standAt p2.atName
      let (f, first) ← holding [ov] (getMethod ov "__init__" pl)
      callWith pos f first (backTo pos (starEach (e :: es) X.env)) (backToKw pos (keywordEach [] X.env))) := by rfl)
    (he : starEach (e :: es) X.env = (false, eval e X.env) :: starEach es X.env := by rfl) (hpl : (backTo pos (starEach es X.env)).any (·.1) = false := by rfl) :
    PE X (.Call (.Attribute (.Name "RuntimeError" p1) "__init__" p2) (e :: es) [] pos) (tRtI X.K ta) := by
  refine ⟨fun pins s σ H Q I h => ?_⟩
  refine PySem.W.methodCall_KW (ld_blt I hg hm PyProof.Rows.Boot.«RuntimeError» ?_ (by decide) (by decide)) hc
  obtain ⟨m, fr⟩ := I.fr
  refine PySem.W.method_type fr I.ok.mod.kin typRE (by decide +kernel) vV (by decide +kernel) ?_
  show wpAny _ _ (callWith pos (Value.builtin "RuntimeError.__init__") [] (backTo pos (starEach (e :: es) X.env)) []) _ _ _
  refine PyProof.Rows.callWith_method1 (thn (ha.run pos pins _ σ H _ (I.tok _) h) ?_) he hpl
  rintro us s1 ⟨vs, H1, I1, r1, a, C, ws, ev, few, T, ea, q⟩
  subst ev
  cases r1 with
  | @cons _ u0 _ ur ra rw' =>
    obtain rfl : u0 = Value.ref a := ra
    have small : ur.length ≤ sizeLine := by
      rw [← Paired.length rw', sizeLine_eq]
      omega
    exact initRt T I1 ea small fun s' J => ⟨.non, H1, J, rfl, q⟩
end
end My
set_option maxHeartbeats 4000000
/-! short words for own exceptions made as values -/
namespace My
open PySem PySem.Spec PyProof.Rows L2 Evl

theorem peImp {X : Cx} {e : Expr} {t t' : TE} (h : PE X e t) (k : ∀ σ H Q, t' σ H Q → t σ H Q) : PE X e t' := ⟨fun pins s σ H Q I q => h.run pins s σ H Q I (k σ H Q q)⟩

section
variable {K : PySem.W.Frag} {fd : FuncData} {ps : List Str}
theorem kbPos (b : Binds K fd ps []) : KBn K fd ps ps.length [] (fun us _ => us) (fun vs _ => vs) where
  to := fun s us ws inK l1 _ => by
    have q := b s us inK (by rw [List.append_nil]; exact l1)
    rw [List.append_nil] at q
    exact q
  rel := fun r _ => r
end

/-- a class whose __init__ keeps one field -/
structure Mkr (P : Program) (w : World) (K : PySem.W.Frag) (mg : Str → Option Value) (base : Heap) (C : Addr) (f : Str) : Prop where
  ex : ∃ (fI : Addr) (fd : FuncData), ExG K C ∧ PySem.W.findIn K (.ref C) "__init__" = some (some (.ref fI)) ∧ PySem.W.typeIn K (.ref fI) = some (.type "function") ∧
    FnOk P w K mg base CX0 1 fI fd ["self", f] (spOne C f) ∧ KBn K fd ["self", f] 2 [] (fun us _ => us) (fun vs _ => vs) ∧
    KBn K fd ["self", f] 1 [f] (fun us ws => us ++ ws) (fun vs zs => vs ++ zs)
/-- a class whose __init__ keeps two -/
structure Mkr2 (P : Program) (w : World) (K : PySem.W.Frag) (mg : Str → Option Value) (base : Heap) (C : Addr) (f g : Str) : Prop where
  ex : ∃ (fI : Addr) (fd : FuncData), ExG K C ∧ PySem.W.findIn K (.ref C) "__init__" = some (some (.ref fI)) ∧ PySem.W.typeIn K (.ref fI) = some (.type "function") ∧
    FnOk P w K mg base CX0 1 fI fd ["self", f, g] (spTwo C f g) ∧ KBn K fd ["self", f, g] 3 [] (fun us _ => us) (fun vs _ => vs) ∧
    KBn K fd ["self", f, g] 1 [f, g] (fun us ws => us ++ ws) (fun vs zs => vs ++ zs) ∧
    KBn K fd ["self", f, g] 1 [g, f] (fun us ws => us ++ ws.reverse) (fun vs zs => vs ++ zs.reverse)
/-- a class whose __init__ keeps none -/
structure Mkr0 (P : Program) (w : World) (K : PySem.W.Frag) (mg : Str → Option Value) (base : Heap) (C : Addr) : Prop where
  ex : ∃ (fI : Addr) (fd : FuncData), ExG K C ∧ PySem.W.findIn K (.ref C) "__init__" = some (some (.ref fI)) ∧ PySem.W.typeIn K (.ref fI) = some (.type "function") ∧
    FnOk P w K mg base CX0 1 fI fd ["self"] (spNil C) ∧ KBn K fd ["self"] 1 [] (fun us _ => us) (fun vs _ => vs)

/-- what comes of it: a new exception of C, its dict told -/
def EvX (te : TE) (σ : L2.St) (H : Hp) (C : Addr) (fs : List (Str × V)) : Prop := ∀ H1, Ex H H1 → ∀ Q : VK,
  (∀ a dx H2, H1 a = none → Ex H1 H2 → H2 a = some (exo a C (some dx)) → H2 dx = some (exd dx fs) → Q (.ref a) H2) → te σ H1 Q
def EvX0 (te : TE) (σ : L2.St) (H : Hp) (C : Addr) : Prop := ∀ H1, Ex H H1 → ∀ Q : VK, (∀ a H2, H1 a = none → Ex H1 H2 → H2 a = some (exo a C none) → Q (.ref a) H2) → te σ H1 Q

section
variable {σ : L2.St} {H : Hp} {C a : Addr} {f g : Str} {v u : V} {te tu : TE} {Q : VK} {E : XK}
theorem spOneOf (ha : H a = none) (q : ∀ dx H2, Ex H H2 → H2 a = some (exo a C (some dx)) → H2 dx = some (exd dx [(f, v)]) → Q (.ref a) H2) :
    spOne C f [.ref a, v] (upd H a (exo a C none)) (fun w H3 => w = .non ∧ Q (.ref a) H3) E := by
  refine ⟨a, v, rfl, upd_same, fun dx n ne => ⟨rfl, ?_⟩⟩
  rw [upd_upd]
  rw [upd_ne ne] at n
  have n1 : upd H a (exo a C (some dx)) dx = none := by
    rw [upd_ne ne]
    exact n
  exact q dx _ ((Ex.new ha).trans (Ex.new n1)) (by rw [upd_ne (Ne.symm ne), upd_same]) upd_same
theorem spTwoOf (ha : H a = none) (q : ∀ dx H2, Ex H H2 → H2 a = some (exo a C (some dx)) → H2 dx = some (exd dx [(g, u), (f, v)]) → Q (.ref a) H2) :
    spTwo C f g [.ref a, v, u] (upd H a (exo a C none)) (fun w H3 => w = .non ∧ Q (.ref a) H3) E := by
  refine ⟨a, v, u, rfl, upd_same, fun dx n ne => ⟨rfl, ?_⟩⟩
  rw [upd_upd, upd_upd]
  rw [upd_ne ne] at n
  have n1 : upd H a (exo a C (some dx)) dx = none := by
    rw [upd_ne ne]
    exact n
  exact q dx _ ((Ex.new ha).trans (Ex.new n1)) (by rw [upd_ne (Ne.symm ne), upd_same]) upd_same
theorem ex_one (h : Ev te σ H v) : EvX (tMadeK C 1 0 (spOne C f) (fun vs _ => vs) (tCons te tNil) tNil) σ H C [(f, v)] := fun H1 e Q q =>
  h H1 e _ fun H2 e2 => ⟨rfl, rfl, by decide, fun a ha => spOneOf ha fun dx H3 e3 h1 h2 => q a dx H3 (fresh_back e2 ha) (e2.trans e3) h1 h2⟩
theorem ex_oneK (h : Ev te σ H v) : EvX (tMadeK C 0 1 (spOne C f) (fun vs zs => vs ++ zs) tNil (tCons te tNil)) σ H C [(f, v)] := fun H1 e Q q =>
  h H1 e _ fun H2 e2 => ⟨rfl, rfl, by decide, fun a ha => spOneOf ha fun dx H3 e3 h1 h2 => q a dx H3 (fresh_back e2 ha) (e2.trans e3) h1 h2⟩
theorem ex_two (h : Ev te σ H v) (h' : Ev tu σ H u) : EvX (tMadeK C 2 0 (spTwo C f g) (fun vs _ => vs) (tCons te (tCons tu tNil)) tNil) σ H C [(g, u), (f, v)] := fun H1 e Q q =>
  h H1 e _ fun H2 e2 => h' H2 (e.trans e2) _ fun H3 e3 => ⟨rfl, rfl, by decide, fun a ha => spTwoOf ha fun dx H4 e4 h1 h2 => q a dx H4 (fresh_back (e2.trans e3) ha) ((e2.trans e3).trans e4) h1 h2⟩
theorem ex_twoK (h : Ev te σ H v) (h' : Ev tu σ H u) : EvX (tMadeK C 0 2 (spTwo C f g) (fun vs zs => vs ++ zs) tNil (tCons te (tCons tu tNil))) σ H C [(g, u), (f, v)] := fun H1 e Q q =>
  h H1 e _ fun H2 e2 => h' H2 (e.trans e2) _ fun H3 e3 => ⟨rfl, rfl, by decide, fun a ha => spTwoOf ha fun dx H4 e4 h1 h2 => q a dx H4 (fresh_back (e2.trans e3) ha) ((e2.trans e3).trans e4) h1 h2⟩
theorem ex_twoR (h : Ev te σ H v) (h' : Ev tu σ H u) : EvX (tMadeK C 0 2 (spTwo C f g) (fun vs zs => vs ++ zs.reverse) tNil (tCons tu (tCons te tNil))) σ H C [(g, u), (f, v)] := fun H1 e Q q =>
  h' H1 e _ fun H2 e2 => h H2 (e.trans e2) _ fun H3 e3 => ⟨rfl, rfl, by decide, fun a ha => spTwoOf ha fun dx H4 e4 h1 h2 => q a dx H4 (fresh_back (e2.trans e3) ha) ((e2.trans e3).trans e4) h1 h2⟩
theorem ex_nil : EvX0 (tMadeK C 0 0 (spNil C) (fun vs _ => vs) tNil tNil) σ H C := fun H1 e Q q =>
  ⟨rfl, rfl, by decide, fun a ha => ⟨a, rfl, upd_same, rfl, q a _ ha (Ex.new ha) upd_same⟩⟩
end

section
variable {X : Cx} {C : Addr} {x f g : Str} {e d : Expr} {te tu : TE} {p pos kp kq : Pos}
theorem passN : Passes CX0 X (fun _ _ _ => False) := fun _ _ _ _ _ _ _ z => z.elim
/-- C(e) -/
theorem pe_mk1 (M : Mkr X.prog X.w X.K X.mg X.base C f) (hr : Room 2 X.A) (hg : Gl X x) (hm : X.mg x = some (.ref C)) (he : PE X e te) (hdb : (x == ("__debug__" : Str)) = false := by decide)
    (hs : starEach [e] X.env = (false, eval e X.env) :: starEach [] X.env := by rfl) :
    PE X (.Call (.Name x p) [e] [] pos) (tMadeK C 1 0 (spOne C f) (fun vs _ => vs) (tCons te tNil) tNil) := by
  obtain ⟨fI, fd, T, iC, tI, F, b0, b1⟩ := M.ex
  refine pe_madeK (n := 1) (ks := []) T iC tI F hr hg hm b0 passN (pa_cons he pa_nil hs) pk_nil rfl rfl hdb hs ?_
  rw [hs]
  rfl
/-- C(f = e) -/
theorem pe_mk1K (M : Mkr X.prog X.w X.K X.mg X.base C f) (hr : Room 2 X.A) (hg : Gl X x) (hm : X.mg x = some (.ref C)) (he : PE X e te) (hdb : (x == ("__debug__" : Str)) = false := by decide) :
    PE X (.Call (.Name x p) [] [⟨some f, e, kp⟩] pos) (tMadeK C 0 1 (spOne C f) (fun vs zs => vs ++ zs) tNil (tCons te tNil)) := by
  obtain ⟨fI, fd, T, iC, tI, F, b0, b1⟩ := M.ex
  exact pe_madeK0 (ks := [f]) T iC tI F hr hg hm b1 passN (pk_cons he pk_nil) rfl rfl hdb rfl
/-- C(e, d) -/
theorem pe_mk2 (M : Mkr2 X.prog X.w X.K X.mg X.base C f g) (hr : Room 2 X.A) (hg : Gl X x) (hm : X.mg x = some (.ref C)) (he : PE X e te) (hd : PE X d tu) (hdb : (x == ("__debug__" : Str)) = false := by decide)
    (hs : starEach [e, d] X.env = (false, eval e X.env) :: starEach [d] X.env := by rfl) (hs2 : starEach [d] X.env = (false, eval d X.env) :: starEach [] X.env := by rfl) :
    PE X (.Call (.Name x p) [e, d] [] pos) (tMadeK C 2 0 (spTwo C f g) (fun vs _ => vs) (tCons te (tCons tu tNil)) tNil) := by
  obtain ⟨fI, fd, T, iC, tI, F, b0, b1, b2⟩ := M.ex
  refine pe_madeK (n := 2) (ks := []) T iC tI F hr hg hm b0 passN (pa_cons he (pa_cons hd pa_nil hs2) hs) pk_nil rfl rfl hdb hs ?_
  rw [hs, hs2]
  rfl
/-- C(f = e, g = d) -/
theorem pe_mk2K (M : Mkr2 X.prog X.w X.K X.mg X.base C f g) (hr : Room 2 X.A) (hg : Gl X x) (hm : X.mg x = some (.ref C)) (he : PE X e te) (hd : PE X d tu) (hdb : (x == ("__debug__" : Str)) = false := by decide) :
    PE X (.Call (.Name x p) [] [⟨some f, e, kp⟩, ⟨some g, d, kq⟩] pos) (tMadeK C 0 2 (spTwo C f g) (fun vs zs => vs ++ zs) tNil (tCons te (tCons tu tNil))) := by
  obtain ⟨fI, fd, T, iC, tI, F, b0, b1, b2⟩ := M.ex
  exact pe_madeK0 (ks := [f, g]) T iC tI F hr hg hm b1 passN (pk_cons he (pk_cons hd pk_nil)) rfl rfl hdb rfl
/-- C(g = d, f = e) -/
theorem pe_mk2R (M : Mkr2 X.prog X.w X.K X.mg X.base C f g) (hr : Room 2 X.A) (hg : Gl X x) (hm : X.mg x = some (.ref C)) (he : PE X e te) (hd : PE X d tu) (hdb : (x == ("__debug__" : Str)) = false := by decide) :
    PE X (.Call (.Name x p) [] [⟨some g, d, kq⟩, ⟨some f, e, kp⟩] pos) (tMadeK C 0 2 (spTwo C f g) (fun vs zs => vs ++ zs.reverse) tNil (tCons tu (tCons te tNil))) := by
  obtain ⟨fI, fd, T, iC, tI, F, b0, b1, b2⟩ := M.ex
  exact pe_madeK0 (ks := [g, f]) T iC tI F hr hg hm b2 passN (pk_cons hd (pk_cons he pk_nil)) rfl rfl hdb rfl
/-- C() -/
theorem pe_mk0 (M : Mkr0 X.prog X.w X.K X.mg X.base C) (hr : Room 2 X.A) (hg : Gl X x) (hm : X.mg x = some (.ref C)) (hdb : (x == ("__debug__" : Str)) = false := by decide) :
    PE X (.Call (.Name x p) [] [] pos) (tMadeK C 0 0 (spNil C) (fun vs _ => vs) tNil tNil) := by
  obtain ⟨fI, fd, T, iC, tI, F, b0⟩ := M.ex
  exact pe_madeK0 (ks := []) T iC tI F hr hg hm b0 passN pk_nil rfl rfl hdb rfl
end
end My
set_option maxHeartbeats 4000000
/-! what repr, attributes, comparisons and enumerate come to, in the words of Evl -/
namespace My
open PySem PySem.Spec PyProof.Rows L2 Evl

/-- v stands for d, and d can be shown in short -/
structure Gd (K : PySem.W.Frag) (H : Hp) (v : V) (d : PyData) : Prop where
  dd : Dd K H v d
  sh : d.showable = true
  sz : d.shown.length ≤ 2000
  dp : d.depth ≤ 10
section
variable {K : PySem.W.Frag} {H H' : Hp} {σ : L2.St} {v x y : V} {d : PyData} {te ta tb : TE}
theorem Gd.ext (g : Gd K H v d) (e : Ex H H') : Gd K H' v d := ⟨Dd.ext e d v g.dd, g.sh, g.sz, g.dp⟩
theorem ev_repr (h : Ev te σ H v) (g : Gd K H v d) : Ev (tCB (rRepr K) (tCons te tNil)) σ H (.str d.shown) := fun H1 e Q q =>
  h H1 e _ fun H2 e2 => ⟨v, d, rfl, .inr (g.ext (e.trans e2)).dd, g.sh, Nat.le_trans g.sz (by decide), Nat.le_trans g.dp (by decide), q H2 e2⟩
/-- repr of a list that is written there -/
theorem ev_reprL {ta : TA} {vs : List V} {ds : List PyData} (h : EvA ta σ H vs) (hd : Dds K H vs ds) (hz : vs.length ≤ 1000) (sh : (PyData.list ds).showable = true) (sz : (PyData.list ds).shown.length ≤ 10000) (dp : (PyData.list ds).depth ≤ 30) :
    Ev (tCB (rRepr K) (tCons (tLstB ta) tNil)) σ H (.str (PyData.list ds).shown) := fun H1 e Q q =>
  h H1 e _ fun H2 e2 => ⟨sz_of (by omega), fun p hp np => by
    have eN : Ex H2 (upd H2 p (.lst vs)) := Ex.new hp
    exact ⟨.ref p, .list ds, rfl, .inr (.lst (SqL.of upd_same) np (Dds.ext ((e.trans e2).trans eN) ds vs hd)), sh, Nat.le_trans sz (by decide), Nat.le_trans dp (by decide), q _ (e2.trans eN)⟩⟩
theorem ev_exAt {a C dx : Addr} {f : Str} {fs : List (Str × V)} (h : Ev te σ H (.ref a)) (R : ExR K C) (no : PySem.W.findIn K (.ref C) f = some none)
    (h1 : H a = some (exo a C (some dx))) (h2 : H dx = some (exd dx fs)) (el : fs.lookup f = some v) : Ev (tExAt K f te) σ H v := fun H1 e Q q =>
  h H1 e _ fun H2 e2 => ⟨a, C, dx, fs, v, rfl, R, no, e2 _ _ (e _ _ h1), e2 _ _ (e _ _ h2), el, q H2 e2⟩
theorem rv_neSame (h1 : ∀ H', Ex H H' → Dp K H' x d) (h2 : ∀ H', Ex H H' → Dp K H' y d) (s : SeqAt.shaped d = true) : RV (rNeD K) x y H (.bl false) := fun H1 e Q q =>
  ⟨d, d, h1 H1 e, h2 H1 e, s, s, by
    rw [PySem.SeqAt.eqv_refl d (PySem.SeqAt.canLay_of_shaped s)]
    exact q H1 (Ex.refl H1)⟩
theorem rv_eqSame (h1 : ∀ H', Ex H H' → Dp K H' x d) (h2 : ∀ H', Ex H H' → Dp K H' y d) (s : SeqAt.shaped d = true) : RV (rEqD K) x y H (.bl true) := fun H1 e Q q =>
  ⟨d, d, h1 H1 e, h2 H1 e, s, s, by
    rw [PySem.SeqAt.eqv_refl d (PySem.SeqAt.canLay_of_shaped s)]
    exact q H1 (Ex.refl H1)⟩
theorem dpBools : ∀ (bs : List Bool), DpAll K H (bs.map V.bl) (bs.map PyData.bool)
  | [] => .nil
  | b :: r => .cons (.bl b) (dpBools r)
theorem dpInts : ∀ (ns : List Int), DpAll K H (ns.map V.int) (ns.map PyData.int)
  | [] => .nil
  | b :: r => .cons (.int b) (dpInts r)
theorem dp_bools {p : Addr} {bs : List Bool} (h : H p = some (.lst (bs.map V.bl))) : Dp K H (.ref p) (.list (bs.map PyData.bool)) := .lst (SqL.of h) (dpBools bs)
theorem dp_ints {p : Addr} {ns : List Int} (h : H p = some (.lst (ns.map V.int))) : Dp K H (.ref p) (.list (ns.map PyData.int)) := .lst (SqL.of h) (dpInts ns)
theorem ev_min2 {i j : Int} (ha : Ev ta σ H (.int i)) (hb : Ev tb σ H (.int j)) : Ev (tCB (fun xs H Q => ∃ i j, xs = [.int i, .int j] ∧ Q (.int (if j < i then j else i)) H) (tCons ta (tCons tb tNil))) σ H (.int (if j < i then j else i)) := fun H1 e Q q =>
  ha H1 e _ fun H2 e2 => hb H2 (e.trans e2) _ fun H3 e3 => ⟨i, j, rfl, q H3 (e2.trans e3)⟩
end

/-- for i, x in enumerate(a list that stands) -/
theorem for_enum {K : PySem.W.Frag} {a : Addr} {xs : List V} {g : TG} {tb : TS} {D : Ends} {σ : L2.St} {H : Hp} (Pv : Nat → L2.St → Hp → Prop) (h0 : Pv 0 σ H) (hl : ∀ i σ H, i ≤ xs.length → Pv i σ H → SqL K H a xs)
    (hs : ∀ i x σ H T, xs[i]? = some x → Pv i σ H → H T = none → g (.ref T) σ (upd H T (.tup [.int (i : Nat), x])) fun σ2 H2 => tb { D with nx := Pv (i + 1), ct := Pv (i + 1), bk := D.nx } σ2 H2) (hd : ∀ σ H, Pv xs.length σ H → D.nx σ H) :
    ∃ W : Nat → Nat → L2.St → Hp → Prop, (∃ m, W 0 m σ H) ∧ ∀ i m σ H, W i m σ H →
      ((Ite K a).stop i H ∧ D.nx σ H) ∨ ((Ite K a).go i H ∧ ∃ N : L2.St → Hp → Prop, (∀ σ' H', N σ' H' → ∃ m', m' < m ∧ W (i + 1) m' σ' H') ∧
        ∀ x H', (Ite K a).yld i H x H' → g x σ H' fun σ2 H2 => tb { D with nx := N, ct := N, bk := D.nx } σ2 H2) := by
  refine ⟨fun i m σ H => m = xs.length - i ∧ i ≤ xs.length ∧ Pv i σ H, ⟨xs.length, by simp, Nat.zero_le _, h0⟩, ?_⟩
  rintro i m σ H ⟨rfl, hi, p⟩
  have q := hl i σ H hi p
  by_cases lt : i < xs.length
  · refine .inr ⟨⟨xs, xs[i], q, by simp [lt]⟩, Pv (i + 1), fun σ' H' p' => ⟨xs.length - (i + 1), by omega, rfl, lt, p'⟩, ?_⟩
    rintro x H' ⟨T, y, rfl, hT, rfl, hy⟩
    exact hs i y σ H T (hy xs q) p hT
  · have e : i = xs.length := by omega
    subst e
    exact .inl ⟨⟨xs, q, Nat.le_refl _⟩, hd σ H p⟩
end My
namespace My
open PySem PySem.Spec PyProof.Rows L2 Evl
/-- a def of the module, its promise, as a constant -/
structure Df (P : Program) (w : World) (K : PySem.W.Frag) (mg : Str → Option Value) (base : Heap) (x : Str) (ps : List Str) (k : Nat) (sp : Sp) : Prop where
  ex : ∃ (f : Addr) (fd : FuncData), mg x = some (.ref f) ∧ PySem.W.keepIn K (.ref f) = true ∧ FnOk P w K mg base CX0 k f fd ps sp ∧ Binds K fd ps []
theorem pe_df {X : Cx} {x : Str} {ps : List Str} {k : Nat} {sp : Sp} {e : Expr} {es : List Expr} {t : TA} {p pos : Pos} (D : Df X.prog X.w X.K X.mg X.base x ps k sp) (hr : Room k X.A) (hg : Gl X x) (ha : PA X (e :: es) t)
    (hdb : (x == ("__debug__" : Str)) = false := by decide) (he : starEach (e :: es) X.env = (false, eval e X.env) :: starEach es X.env := by rfl) (hpl : (backTo pos (starEach es X.env)).any (·.1) = false := by rfl) :
    PE X (.Call (.Name x p) (e :: es) [] pos) (tCall sp [] E0 t) := by
  obtain ⟨f, fd, hm, hk, F, b⟩ := D.ex
  exact pe_call F hr hg hm hk b .nil pass0 ha hdb he hpl
section
variable {σ : L2.St} {H : Hp} {ta tb : TE} {xs : List V}
theorem el_rep {k : Int} (ha : EvL ta σ H xs) (hb : ∀ H1, Ex H H1 → Ev tb σ H1 (.int k)) (h : -(2 ^ 63) ≤ k ∧ k < 2 ^ 63) (z : xs.length * k.toNat ≤ 100000) : EvL (tOp rRep ta tb) σ H (List.replicate k.toNat xs).flatten := fun H1 e Q q =>
  ha H1 e _ fun l H2 _ e2 h2 => hb H2 (e.trans e2) H2 (Ex.refl H2) _ fun H3 e3 =>
    ⟨l, k, xs, rfl, rfl, e3 l _ h2, h.1, h.2, sz_of z, fun r hr => q r _ (fresh_back (e2.trans e3) hr) ((e2.trans e3).trans (Ex.new hr)) upd_same⟩
end
end My
namespace My
open PySem PySem.Spec PyProof.Rows L2 Evl
/-- a row of new exceptions of one class, all with the same fields -/
def EvXr (C : Addr) (ta : TA) (σ : L2.St) (H : Hp) (fs : List (Str × V)) (n : Nat) : Prop := ∀ H1, Ex H H1 → ∀ Q : List V → Hp → Prop,
  (∀ (as : List Addr) (H2 : Hp), Ex H1 H2 → as.length = n → (∀ (m : Nat) (a : Addr), as[m]? = some a → ∃ dx, H2 a = some (exo a C (some dx)) ∧ H2 dx = some (exd dx fs)) → Q (as.map V.ref) H2) → ta σ H1 Q
section
variable {C : Addr} {te : TE} {ta : TA} {σ : L2.St} {H : Hp} {fs : List (Str × V)} {n : Nat} {K : PySem.W.Frag} {tu tz : TS} {D : Ends} {j : Nat}
theorem exr_nil : EvXr C tNil σ H fs 0 := fun H1 e Q q => q [] H1 (Ex.refl H1) rfl fun m a h => by simp at h
theorem exr_cons (h : EvX te σ H C fs) (hr : EvXr C ta σ H fs n) : EvXr C (tCons te ta) σ H fs (n + 1) := fun H1 e Q q =>
  h H1 e _ fun a dx H2 _ e2 h1 h2 => hr H2 (e.trans e2) _ fun bs H3 e3 hl x => q (a :: bs) H3 (e2.trans e3) (by rw [List.length_cons, hl]) fun k b hb => by
    cases k with
    | zero =>
      have z : a = b := by simpa using hb
      subst z
      exact ⟨dx, e3 _ _ h1, e3 _ _ h2⟩
    | succ k => exact x k b (by simpa using hb)
/-- for e in [C(..), C(..)] -/
theorem s_forX (h : EvXr C ta σ H fs n) (hn : n ≤ 1000) (S : L2.St → Prop) (s0 : S σ)
    (hs : ∀ a dx σ' H', Ex H H' → H' a = some (exo a C (some dx)) → H' dx = some (exd dx fs) → S σ' → ∀ N : L2.St → Hp → Prop, (∀ σ2 H2, Ex H' H2 → S σ2 → N σ2 H2) →
      tu { D with nx := N, ct := N, bk := D.nx } (σ'.set j (some (.ref a))) H')
    (hd : ∀ σ' H', Ex H H' → S σ' → D.nx σ' H') : tFor (iList K (tLst ta)) (gName j) tu D σ H :=
  h H (Ex.refl H) _ fun as H1 e1 hl x => ⟨by rw [List.length_map, hl]; exact sz_of (by omega), fun L nL => ⟨L, rfl, ⟨_, SqL.of upd_same⟩,
    for_list (K := K) (a := L) (xs := as.map V.ref) (fun _ σ' H' => Ex (upd H1 L (.lst (as.map V.ref))) H' ∧ S σ') ⟨Ex.refl _, s0⟩ (fun _ σ' H' _ q => ex_l q.1 (SqL.of upd_same))
      (fun m v σ' H' hv q => by
        obtain ⟨a, ha, rfl⟩ : ∃ a, as[m]? = some a ∧ v = .ref a := by
          rw [List.getElem?_map] at hv
          cases z : as[m]? with
          | none =>
            rw [z] at hv
            cases hv
          | some u =>
            rw [z] at hv
            exact ⟨u, rfl, (Option.some.inj hv).symm⟩
        obtain ⟨dx, h1, h2⟩ := x m a ha
        have eN : Ex H1 (upd H1 L (.lst (as.map V.ref))) := Ex.new nL
        exact hs a dx σ' H' ((e1.trans eN).trans q.1) (q.1 _ _ (eN _ _ h1)) (q.1 _ _ (eN _ _ h2)) q.2 _ fun σ2 H2 e2 s2 => ⟨q.1.trans e2, s2⟩)
      fun σ' H' q => hd σ' H' ((e1.trans (Ex.new nL)).trans q.1) q.2⟩⟩
theorem q_forX (h : EvXr C ta σ H fs n) (hn : n ≤ 1000) (S : L2.St → Prop) (s0 : S σ)
    (hs : ∀ a dx σ' H', Ex H H' → H' a = some (exo a C (some dx)) → H' dx = some (exd dx fs) → S σ' → ∀ N : L2.St → Hp → Prop, (∀ σ2 H2, Ex H' H2 → S σ2 → N σ2 H2) →
      tu { D with nx := N, ct := N, bk := tz D } (σ'.set j (some (.ref a))) H')
    (hd : ∀ σ' H', Ex H H' → S σ' → tz D σ' H') : tSeq (tFor (iList K (tLst ta)) (gName j) tu) tz D σ H := s_forX (D := { D with nx := tz D }) h hn S s0 hs hd
end
end My
set_option maxHeartbeats 4000000
namespace K02
open PySem L2 Evl My
def top (i : Nat) : Stmt := PySem.Challenge.pw_maskededits_k02_exceptions_apart.main.body.getD i (.Pass ⟨0, 0, 0, 0⟩)
abbrev sPool : Stmt := top 24
abbrev sTake : Stmt := top 25
abbrev sAt : Stmt := top 26

/-! ### what an operation makes of evaluated parts -/
section
variable {σ : L2.St} {H : Hp} {ta tb te : TE} {i j : Int} {K : PySem.W.Frag}
theorem evAdd (ha : Ev ta σ H (.int i)) (hb : Ev tb σ H (.int j)) : Ev (tOp (rI0 fun i j => .int (i + j)) ta tb) σ H (.int (i + j)) := ev_op ha hb rv_I0
theorem evMul (ha : Ev ta σ H (.int i)) (hb : Ev tb σ H (.int j)) (h : CMul i j) : Ev (tOp (rI CMul fun i j => .int (i * j)) ta tb) σ H (.int (i * j)) := ev_op ha hb (rv_I h)
theorem evMod (ha : Ev ta σ H (.int i)) (hb : Ev tb σ H (.int j)) (h : 0 < j) : Ev (tOp (rI (fun _ j => 0 < j) fun i j => .int (i % j)) ta tb) σ H (.int (i % j)) := ev_op ha hb (rv_I h)
theorem evDiv (ha : Ev ta σ H (.int i)) (hb : Ev tb σ H (.int j)) (h : CDiv i j) : Ev (tOp (rI CDiv fun i j => .int (i / j)) ta tb) σ H (.int (i / j)) := ev_op ha hb (rv_I h)
theorem evPow (ha : Ev ta σ H (.int i)) (hb : Ev tb σ H (.int j)) (h : CPow i j) : Ev (tOp (rI CPow fun i j => .int (i ^ j.toNat)) ta tb) σ H (.int (i ^ j.toNat)) := ev_op ha hb (rv_I h)
theorem etLt (ha : Ev ta σ H (.int i)) (hb : Ev tb σ H (.int j)) : EvT (tTest (tOp (rI0 fun i j => .bl (decide (i < j))) ta tb)) σ H (decide (i < j)) := et_test (ev_op ha hb rv_I0)
theorem etGt (ha : Ev ta σ H (.int i)) (hb : Ev tb σ H (.int j)) : EvT (tTest (tOp (rI0 fun i j => .bl (decide (j < i))) ta tb)) σ H (decide (j < i)) := et_test (ev_op ha hb rv_I0)
end

structure Txt (mg : Str → Option Value) : Prop where
  len : mg "len" = none
  range : mg "range" = none

/-- the pool of a cell: two numbers, the second one small -/
def spPool (K : PySem.W.Frag) : Sp := fun vs H Q _ => ∃ (a : Addr) (ns : List Int) (k : Nat), vs = [.ref a, .int (k : Int)] ∧ SqL K H a (ns.map V.int) ∧ ns.length ≤ 63 ∧ k ≤ 63 ∧
  ∀ p c z H', H p = none → Ex H H' → H' p = some (.lst [.int c, .int z]) → 0 ≤ c → 0 ≤ z → z < 2147483648 → Q (.ref p) H'
/-- a draw: the pool turns, the number lies below sides -/
def spTake : Sp := fun vs H Q _ => ∃ (p : Addr) (c z sides : Int), vs = [.ref p, .int sides] ∧ H p = some (.lst [.int c, .int z]) ∧ 0 ≤ c ∧ 0 ≤ z ∧ z < 2147483648 ∧ 0 < sides ∧ sides < 1073741824 ∧
  ∀ n c' z', 0 ≤ n → n < sides → 0 ≤ c' → 0 ≤ z' → z' < 2147483648 → Q (.int n) (upd H p (.lst [.int c', .int z']))
/-- where the bools are true -/
def spAt (K : PySem.W.Frag) : Sp := fun vs H Q _ => ∃ (a : Addr) (f : Nat → Bool) (n : Nat), vs = [.ref a] ∧ SqL K H a ((List.range n).map fun i => V.bl (f i)) ∧ n ≤ 100 ∧
  ∀ p H', H p = none → Ex H H' → H' p = some (.lst (given n f fun i => .int (i : Int))) → Q (.ref p) H'

section
variable {P : Program} {w : World} {K : PySem.W.Frag} {mg : Str → Option Value} {base : Heap} {f : Addr} {fd : FuncData}
theorem scPool : FnScope ["_law_script", "_law_k", "_law_cell", "_law_seed"] ["_law_script", "_law_k"] (defScope sPool) := ⟨rfl, rfl, rfl, by decide +kernel, rfl, by decide +kernel, by decide +kernel⟩
theorem ok_pool (F : Fun K "_law_pool" "_law_pool" sPool f fd) (T : Txt mg) : FnOk P w K mg base CX0 1 f fd ["_law_script", "_law_k"] (spPool K) := by
  refine F.ok scPool (fun vs H Q E h => ?_) (fun cdv A outer s H vs Q E hr h => ?_)
  · obtain ⟨a, ns, k, rfl, _⟩ := h
    rfl
  · obtain ⟨a, ns, k, rfl, hS, hlen, k63, kQ⟩ := h
    have hk : (0 : Int) ≤ (k : Int) ∧ (k : Int) ≤ 63 := ⟨by omega, by omega⟩
    refine ⟨_, pss_cons (ps_set (i := 2) scPool.nd rfl (Or.inl rfl) pe_int)
      (pss_cut (ps_if (pt_cmpR op_lt (pv 1) (pe_callB call_len_seq (by rfl) T.len PySem.boot_len (pa_cons (pv 0) pa_nil)) (nomark _))
        (pss_one (ps_set (i := 2) scPool.nd rfl (Or.inl rfl) (pe_ix ix_list (pv 0) (pv 1) (fun _ _ => rfl)))) pss_nil)
      (pss_cons (ps_set (i := 3) scPool.nd rfl (Or.inl rfl) (pe_op op_mod (pe_op op_mul (pe_op op_add (pe_op op_add (pe_op op_mod (pv 2) pe_int) (pe_op op_mul (pe_op op_mul pe_int (pv 1)) (pv 1))) pe_int) pe_int) pe_int))
      (pss_cut (ps_if (pt_cmpR op_lt (pv 2) (pe_op op_pow pe_int pe_int) (nomark _)) (pss_one (ps_set (i := 2) scPool.nd rfl (Or.inl rfl) pe_int)) pss_nil)
      (pss_one (ps_ret (pe_lst (pa_cons (pv 2) (pa_cons (pe_op op_add (pe_op op_mod (pe_op op_mul (pv 3) (pv 3)) pe_int) pe_int) pa_nil)))))))), ?_⟩
    refine q_asg ev_c fun H1 e1 => ?_
    refine q_cut (M := fun σ' H' => ∃ c : Int, σ' = [some (.ref a), some (.int (k : Int)), some (.int c), none] ∧ Ex H H') ?_ ?_
    · refine s_when (etLt (ev_var rfl) (ev_len (ev_var rfl) (ex_l e1 hS))) (fun hb H2 e2 => ?_) (fun hb H2 e2 => ⟨0, rfl, e1.trans e2⟩)
      have lt : k < ns.length := by
        have q := of_decide_eq_true hb
        rw [List.length_map] at q
        omega
      have get : atI (ns.map V.int) (k : Int) = some (V.int ns[k]) := by
        refine atI_nat ?_
        rw [List.getElem?_map, List.getElem?_eq_getElem lt]
        rfl
      exact s_asg (ev_op (ev_var rfl) (ev_var rfl) (rv_ixL (ex_l (e1.trans e2) hS) get)) fun H3 e3 => ⟨ns[k], rfl, (e1.trans e2).trans e3⟩
    · rintro σ' H2 ⟨c, rfl, e2⟩
      have seed : ∀ y : Int, 0 ≤ y % 2147483647 ∧ y % 2147483647 < 2147483648 := fun y => ⟨Int.emod_nonneg y (by decide), by have := Int.emod_lt_of_pos y (show (0 : Int) < 2147483647 by decide); omega⟩
      refine q_asg (evMod (evMul (evAdd (evAdd (evMod (ev_var rfl) ev_c (by decide)) (evMul (evMul ev_c (ev_var rfl) (Or.inl (by decide))) (ev_var rfl) (Or.inl ⟨by omega, by omega⟩))) ev_c) ev_c (Or.inr (by decide))) ev_c (by decide)) fun H3 e3 => ?_
      generalize hx : ((c % 2147483629 + 7919 * (k : Int) * (k : Int) + 13) * 48271) % 2147483647 = x
      have x01 : 0 ≤ x ∧ x < 2147483648 := by
        rw [← hx]
        exact seed _
      refine q_cut (M := fun σ' H' => ∃ c : Int, 0 ≤ c ∧ σ' = [some (.ref a), some (.int (k : Int)), some (.int c), some (.int x)] ∧ Ex H H') ?_ ?_
      · refine s_when (etLt (ev_var rfl) (evPow ev_c ev_c ⟨by decide, by decide, by decide⟩)) (fun hb H4 e4 => ?_) (fun hb H4 e4 => ?_)
        · exact s_asg ev_c fun H5 e5 => ⟨0, by omega, rfl, ((e2.trans e3).trans e4).trans e5⟩
        · refine ⟨c, ?_, rfl, (e2.trans e3).trans e4⟩
          have q := of_decide_eq_false hb
          have big : (0 : Int) ≤ 10 ^ (18 : Int).toNat := by decide
          omega
      · rintro σ'' H4 ⟨c', c0, rfl, e4⟩
        refine s_retL (el_lst (ea_cons (ev_var rfl) (ea_cons (evAdd (evMod (evMul (ev_var rfl) (ev_var rfl) (Or.inl ⟨by omega, by omega⟩)) ev_c (by decide)) ev_c) ea_nil)) (by simp)) fun p H5 hp e5 h5 => ?_
        exact kQ p _ _ H5 (fresh_back e4 hp) (e4.trans e5) h5 c0 (by have := Int.emod_nonneg (x * x) (show (2147483587 : Int) ≠ 0 by decide); omega)
          (by have := Int.emod_lt_of_pos (x * x) (show (0 : Int) < 2147483587 by decide); omega)

theorem scTake : FnScope ["_law_pool_here", "_law_sides", "_law_found"] ["_law_pool_here", "_law_sides"] (defScope sTake) := ⟨rfl, rfl, rfl, by decide +kernel, rfl, by decide +kernel, by decide +kernel⟩
theorem ok_take (F : Fun K "_law_take" "_law_take" sTake f fd) (T : Txt mg) : FnOk P w K mg base CX0 1 f fd ["_law_pool_here", "_law_sides"] spTake := by
  refine F.ok scTake (fun vs H Q E h => ?_) (fun cdv A outer s H vs Q E hr h => ?_)
  · obtain ⟨p, c, z, sides, rfl, _⟩ := h
    rfl
  · obtain ⟨p, c, z, sides, rfl, hp, c0, z0, z1, s0, s1, kQ⟩ := h
    have hL := fun {x y : Int} {H' : Hp} (h : H' p = some (.lst [.int x, .int y])) => (SqL.of h : SqL K H' p [.int x, .int y])
    refine ⟨_, pss_cons (ps_if (pt_cmpR op_gt (pe_ix ix_list (pv 0) pe_int (fun _ _ => rfl)) pe_int (nomark _))
        (pss_cons (ps_set (i := 2) scTake.nd rfl (Or.inl rfl) (pe_op op_mod (pe_ix ix_list (pv 0) pe_int (fun _ _ => rfl)) (pv 1)))
        (pss_cons (ps_asg (pe_op op_fdiv (pe_ix ix_list (pv 0) pe_int (fun _ _ => rfl)) (pv 1)) (pg_sub (pv 0) pe_int set_list))
        (pss_one (ps_ret (pv 2))))) pss_nil)
      (pss_cons (ps_asg (pe_op op_mod (pe_op op_add (pe_op op_mul (pe_ix ix_list (pv 0) pe_int (fun _ _ => rfl)) pe_int) pe_int) pe_int) (pg_sub (pv 0) pe_int set_list))
      (pss_one (ps_ret (pe_op op_mod (pe_op op_fdiv (pe_op op_mod (pe_op op_mul (pe_ix ix_list (pv 0) pe_int (fun _ _ => rfl)) (pe_ix ix_list (pv 0) pe_int (fun _ _ => rfl))) pe_int) pe_int) (pv 1))))), ?_⟩
    refine ⟨_, rfl, p, [.int c, .int z], 0, .int c, rfl, rfl, hL hp, rfl, c, 0, rfl, rfl, _, rfl, ?_⟩
    refine ite2 (fun hc => ?_) (fun hc => ?_)
    · refine ⟨_, rfl, p, [.int c, .int z], 0, .int c, rfl, rfl, hL hp, rfl, _, rfl, c, sides, rfl, rfl, s0, ?_⟩
      refine ⟨_, rfl, p, [.int c, .int z], 0, .int c, rfl, rfl, hL hp, rfl, _, rfl, c, sides, rfl, rfl, ⟨s0, s1⟩, ?_⟩
      refine ⟨_, rfl, p, [.int c, .int z], 0, 0, rfl, rfl, hp, rfl, _, rfl, ?_⟩
      exact kQ _ _ _ (Int.emod_nonneg c (by omega)) (Int.emod_lt_of_pos c s0) (Int.ediv_nonneg c0 (by omega)) z0 z1
    · refine ⟨_, rfl, p, [.int c, .int z], 1, .int z, rfl, rfl, hL hp, rfl, z, 48271, rfl, rfl, Or.inr (by decide), _, 11, rfl, rfl, _, 2147483647, rfl, rfl, (by show (0 : Int) < 2147483647; decide), ?_⟩
      refine ⟨_, rfl, p, [.int c, .int z], 1, 1, rfl, rfl, hp, rfl, ?_⟩
      have z01 : 0 ≤ (z * 48271 + 11) % 2147483647 ∧ (z * 48271 + 11) % 2147483647 < 2147483647 := ⟨Int.emod_nonneg _ (by decide), Int.emod_lt_of_pos _ (by decide)⟩
      have hp' : upd H p (.lst ([V.int c, V.int z].set 1 ((fun i j => V.int (i % j)) (z * 48271 + 11) 2147483647))) p = some (.lst [.int c, .int ((z * 48271 + 11) % 2147483647)]) := upd_same
      refine ⟨_, rfl, p, _, 1, .int ((z * 48271 + 11) % 2147483647), rfl, rfl, hL hp', rfl, _, rfl, p, _, 1, .int ((z * 48271 + 11) % 2147483647), rfl, rfl, hL hp', rfl, _, _, rfl, rfl, Or.inl ⟨by omega, by omega⟩, _, 2147483629, rfl, rfl, (by show (0 : Int) < 2147483629; decide), _, 64, rfl, rfl, ⟨by decide, by decide⟩, _, rfl, _, sides, rfl, rfl, s0, ?_⟩
      exact kQ _ _ _ (Int.emod_nonneg _ (by omega)) (Int.emod_lt_of_pos _ s0) c0 z01.1 (by omega)

theorem scAt : FnScope ["_law_kinds", "_law_k"] ["_law_kinds"] (defScope sAt) := ⟨rfl, rfl, rfl, by decide +kernel, rfl, by decide +kernel, by decide +kernel⟩
theorem ok_at (F : Fun K "_law_at" "_law_at" sAt f fd) (T : Txt mg) : FnOk P w K mg base CX0 1 f fd ["_law_kinds"] (spAt K) := by
  refine F.ok scAt (fun vs H Q E h => ?_) (fun cdv A outer s H vs Q E hr h => ?_)
  · obtain ⟨a, g, n, rfl, _⟩ := h
    rfl
  · obtain ⟨a, g, n, rfl, hS, hn, kQ⟩ := h
    refine ⟨_, pss_one (ps_ret (pe_lc (own := [("_law_k", 1)]) (g := gName 1) (tt := tB (tOp (rIxL K) (tVar 0) (tVar 1))) (te := tVar 1) rfl scAt.nd
      (pi_range1 rfl T.range (pa_cons (pe_callB call_len_seq (by rfl) T.len PySem.boot_len (pa_cons (pv 0) pa_nil)) pa_nil))
      (blkOk_by (own := [("_law_k", 1)]) (N := ["_law_kinds", "_law_k"]) (sc := defScope sAt) (by decide +kernel))
      (fun _ _ _ _ _ => pg_name (i := 1) scAt.nd rfl (Or.inl rfl))
      (fun _ _ _ _ _ => pts_one (pt_val (pe_ix ix_list (pv 0) (pv 1) (fun _ _ => rfl))))
      (fun _ _ _ _ _ => pv 1))), ?_⟩
    have hl : ((List.range n).map fun i => V.bl (g i)).length = n := by rw [List.length_map, List.length_range]
    have e0 : EvL (tLc (iRng1 (tCons (tCB (rLenS K) (tCons (tVar 0) tNil)) tNil)) (gName 1) (tB (tOp (rIxL K) (tVar 0) (tVar 1))) (tVar 1) [1]) [some (.ref a), none] H
        (given (n : Int).toNat g fun i => .int (i : Int)) := by
      refine el_lcR1 g (fun i => .int (i : Int)) (ea_cons (ev_is (ev_len (ev_var rfl) hS) (by rw [hl])) ea_nil) ⟨by omega, by omega⟩ (fun x => rfl) (fun i H1 e1 hi => ?_) (fun i H1 e1 hi hg => ev_var rfl)
      refine et_B (ev_op (ev_var rfl) (ev_var rfl) (rv_ixL (ex_l e1 hS) (atI_nat ?_)))
      have lt : i < n := by omega
      rw [List.getElem?_map, List.getElem?_range lt]
      rfl
    exact s_retL e0 fun p H1 hp e1 h1 => kQ p H1 hp e1 h1

theorem dummy : True := trivial
end
end K02
set_option maxHeartbeats 8000000
namespace K02
open PySem L2 Evl My
abbrev sValue : Stmt := top 27
abbrev sAll : Stmt := top 28
abbrev sBases : Stmt := top 31

/-- the classes of the program, in the law's own order; cM: the one above most of them -/
structure Cl (K : PySem.W.Frag) (mg : Str → Option Value) (c : Nat → Addr) (cM : Addr) : Prop where
  g0 : mg "InvalidLevels" = some (.ref (c 0))
  g1 : mg "InvalidLevel" = some (.ref (c 1))
  g2 : mg "InvalidName" = some (.ref (c 2))
  g3 : mg "InvalidNumber" = some (.ref (c 3))
  g4 : mg "InvalidText" = some (.ref (c 4))
  g5 : mg "InvalidQuery" = some (.ref (c 5))
  g6 : mg "InvalidView" = some (.ref (c 6))
  g7 : mg "InvalidMoment" = some (.ref (c 7))
  g8 : mg "InvalidEdit" = some (.ref (c 8))
  g9 : mg "BadRecords" = some (.ref (c 9))
  g10 : mg "InvalidRights" = some (.ref (c 10))
  g11 : mg "InvalidLine" = some (.ref (c 11))
  g12 : mg "NoFault" = some (.ref (c 12))
  g13 : mg "NotSeen" = some (.ref (c 13))
  g14 : mg "NoOffer" = some (.ref (c 14))
  g15 : mg "NoRight" = some (.ref (c 15))
  g16 : mg "SameUser" = some (.ref (c 16))
  g17 : mg "InvalidScript" = some (.ref (c 17))
  g18 : mg "Refused" = some (.ref (c 18))
  g19 : mg "Closed" = some (.ref (c 19))
  g20 : mg "NoServer" = some (.ref (c 20))
  gM : mg "MaskError" = some (.ref cM)
  isn : mg "isinstance" = none
  noV : mg "ValueError" = none
  noK : mg "KeyError" = none
  noR : mg "RuntimeError" = none
  R : ∀ i, i < 21 → ExR K (c i)
  kit : ∀ i, i < 21 → ∀ j, j < 21 → PySem.W.kitOne K (.ref (c i)) (.ref (c j)) = some (decide (i = j))
  kitM : ∀ i, i < 21 → PySem.W.kitOne K (.ref (c i)) (.ref cM) = some (decide (i < 13 ∨ i = 17))
  kitV : ∀ i, i < 21 → PySem.W.kitOne K (.ref (c i)) (.type "ValueError") = some (decide (i < 13 ∨ i = 17))
  kitK : ∀ i, i < 21 → PySem.W.kitOne K (.ref (c i)) (.type "KeyError") = some (decide (i = 13 ∨ i = 14))
  kitR : ∀ i, i < 21 → PySem.W.kitOne K (.ref (c i)) (.type "RuntimeError") = some (decide (i = 15 ∨ i = 16 ∨ 18 ≤ i))

/-- at a an exception of the i-th class -/
def ExAt (c : Nat → Addr) (H : Hp) (i : Nat) (a : Addr) : Prop := ∃ d, H a = some (exo a (c i) d) ∧ ∀ dx, d = some dx → ∃ fs, H dx = some (exd dx fs)
theorem ExAt.ext {c : Nat → Addr} {H H' : Hp} {i : Nat} {a : Addr} (x : ExAt c H i a) (e : Ex H H') : ExAt c H' i a := by
  obtain ⟨d, h1, h2⟩ := x
  refine ⟨d, e _ _ h1, fun dx z => ?_⟩
  obtain ⟨fs, h3⟩ := h2 dx z
  exact ⟨fs, e _ _ h3⟩

section
variable {K : PySem.W.Frag} {mg : Str → Option Value} {c : Nat → Addr} {cM : Addr} {σ : L2.St} {H : Hp} {ta tb : TE} {xs ys : List V}
theorem el_cat {l : Addr} (ha : Ev ta σ H (.ref l)) (hl : H l = some (.lst xs)) (hb : EvL tb σ H ys) (z : xs.length + ys.length ≤ 100000) : EvL (tOp rCat ta tb) σ H (xs ++ ys) := fun H1 e Q q =>
  ha H1 e _ fun H2 e2 => hb H2 (e.trans e2) _ fun p H3 _ e3 h3 =>
    ⟨l, p, xs, ys, rfl, rfl, e3 l _ (e2 l _ (e l _ hl)), h3, sz_of z, fun r hr => q r _ (fresh_back (e2.trans e3) hr) ((e2.trans e3).trans (Ex.new hr)) upd_same⟩
theorem el_catN (ha : EvL ta σ H xs) (hb : EvL tb σ H ys) (z : xs.length + ys.length ≤ 100000) : EvL (tOp rCat ta tb) σ H (xs ++ ys) := fun H1 e Q q =>
  ha H1 e _ fun l H2 _ e2 h2 => hb H2 (e.trans e2) _ fun p H3 _ e3 h3 =>
    ⟨l, p, xs, ys, rfl, rfl, e3 l _ h2, h3, sz_of z, fun r hr => q r _ (fresh_back (e2.trans e3) hr) ((e2.trans e3).trans (Ex.new hr)) upd_same⟩
/-- isinstance(e, a class), e an exception -/
theorem ev_isC {i : Nat} {a : Addr} {v : V} {cv : Value} {b : Bool} (C : Cl K mg c cM) (ha : Ev ta σ H (.ref a)) (hi : i < 21) (x : ExAt c H i a) (hc : ClsV v cv) (k : PySem.W.kitOne K (.ref (c i)) cv = some b) :
    Ev (tCB (rIsX K) (tCons ta (tCons (tC v) tNil))) σ H (.bl b) := fun H1 e Q q =>
  ha H1 e _ fun H2 e2 => by
    obtain ⟨d, h1, h2⟩ := x.ext (e.trans e2)
    exact ⟨a, c i, d, v, cv, b, rfl, C.R i hi, h1, h2, hc, k, q H2 e2⟩
theorem ev_is1 {i j : Nat} {a : Addr} (C : Cl K mg c cM) (ha : Ev ta σ H (.ref a)) (hi : i < 21) (x : ExAt c H i a) (hj : j < 21 := by decide) :
    Ev (tCB (rIsX K) (tCons ta (tCons (tC (.ref (c j))) tNil))) σ H (.bl (decide (i = j))) := ev_isC C ha hi x (.own _) (C.kit i hi j hj)
end

/-- which of the first n classes it is of -/
def spKinds (c : Nat → Addr) (n : Nat) : Sp := fun vs H Q _ => ∃ (i : Nat) (a : Addr), vs = [.ref a] ∧ i < 21 ∧ ExAt c H i a ∧
  ∀ p H', H p = none → Ex H H' → H' p = some (.lst ((List.range n).map fun j => V.bl (decide (i = j)))) → Q (.ref p) H'
def basesOf (i : Nat) : List Bool := [decide (i < 13 ∨ i = 17), decide (i < 13 ∨ i = 17), decide (i = 13 ∨ i = 14), decide (i = 15 ∨ i = 16 ∨ 18 ≤ i)]
def spBases (c : Nat → Addr) : Sp := fun vs H Q _ => ∃ (i : Nat) (a : Addr), vs = [.ref a] ∧ i < 21 ∧ ExAt c H i a ∧
  ∀ p H', H p = none → Ex H H' → H' p = some (.lst ((basesOf i).map V.bl)) → Q (.ref p) H'
section
variable {P : Program} {w : World} {K : PySem.W.Frag} {mg : Str → Option Value} {base : Heap} {f : Addr} {fd : FuncData} {c : Nat → Addr} {cM : Addr}
theorem scValue : FnScope ["_law_e", "_law_kinds"] ["_law_e"] (defScope sValue) := ⟨rfl, rfl, rfl, by decide +kernel, rfl, by decide +kernel, by decide +kernel⟩
theorem ok_value (F : Fun K "_law_value_kinds" "_law_value_kinds" sValue f fd) (C : Cl K mg c cM) : FnOk P w K mg base CX0 1 f fd ["_law_e"] (spKinds c 17) := by
  refine F.ok scValue (fun vs H Q E h => ?_) (fun cdv A outer s H vs Q E hr h => ?_)
  · obtain ⟨i, a, rfl, _⟩ := h
    rfl
  · obtain ⟨i, a, rfl, hi, x, kQ⟩ := h
    refine ⟨_, pss_cons (ps_set (i := 1) scValue.nd rfl (Or.inl rfl) (pe_lst (pa_cons (pe_callB call_isX (by rfl) C.isn (by decide +kernel) (pa_cons (pv 0) (pa_cons (pe_glob (v := .ref (c 0)) rfl C.g0 rfl) pa_nil))) (pa_cons (pe_callB call_isX (by rfl) C.isn (by decide +kernel) (pa_cons (pv 0) (pa_cons (pe_glob (v := .ref (c 1)) rfl C.g1 rfl) pa_nil))) (pa_cons (pe_callB call_isX (by rfl) C.isn (by decide +kernel) (pa_cons (pv 0) (pa_cons (pe_glob (v := .ref (c 2)) rfl C.g2 rfl) pa_nil))) pa_nil))))) (
      pss_cons (ps_set (i := 1) scValue.nd rfl (Or.inl rfl) (pe_op op_cat (pv 1) (pe_lst (pa_cons (pe_callB call_isX (by rfl) C.isn (by decide +kernel) (pa_cons (pv 0) (pa_cons (pe_glob (v := .ref (c 3)) rfl C.g3 rfl) pa_nil))) (pa_cons (pe_callB call_isX (by rfl) C.isn (by decide +kernel) (pa_cons (pv 0) (pa_cons (pe_glob (v := .ref (c 4)) rfl C.g4 rfl) pa_nil))) (pa_cons (pe_callB call_isX (by rfl) C.isn (by decide +kernel) (pa_cons (pv 0) (pa_cons (pe_glob (v := .ref (c 5)) rfl C.g5 rfl) pa_nil))) pa_nil)))))) (
      pss_cons (ps_set (i := 1) scValue.nd rfl (Or.inl rfl) (pe_op op_cat (pv 1) (pe_lst (pa_cons (pe_callB call_isX (by rfl) C.isn (by decide +kernel) (pa_cons (pv 0) (pa_cons (pe_glob (v := .ref (c 6)) rfl C.g6 rfl) pa_nil))) (pa_cons (pe_callB call_isX (by rfl) C.isn (by decide +kernel) (pa_cons (pv 0) (pa_cons (pe_glob (v := .ref (c 7)) rfl C.g7 rfl) pa_nil))) (pa_cons (pe_callB call_isX (by rfl) C.isn (by decide +kernel) (pa_cons (pv 0) (pa_cons (pe_glob (v := .ref (c 8)) rfl C.g8 rfl) pa_nil))) pa_nil)))))) (
      pss_cons (ps_set (i := 1) scValue.nd rfl (Or.inl rfl) (pe_op op_cat (pv 1) (pe_lst (pa_cons (pe_callB call_isX (by rfl) C.isn (by decide +kernel) (pa_cons (pv 0) (pa_cons (pe_glob (v := .ref (c 9)) rfl C.g9 rfl) pa_nil))) (pa_cons (pe_callB call_isX (by rfl) C.isn (by decide +kernel) (pa_cons (pv 0) (pa_cons (pe_glob (v := .ref (c 10)) rfl C.g10 rfl) pa_nil))) (pa_cons (pe_callB call_isX (by rfl) C.isn (by decide +kernel) (pa_cons (pv 0) (pa_cons (pe_glob (v := .ref (c 11)) rfl C.g11 rfl) pa_nil))) pa_nil)))))) (
      pss_cons (ps_set (i := 1) scValue.nd rfl (Or.inl rfl) (pe_op op_cat (pv 1) (pe_lst (pa_cons (pe_callB call_isX (by rfl) C.isn (by decide +kernel) (pa_cons (pv 0) (pa_cons (pe_glob (v := .ref (c 12)) rfl C.g12 rfl) pa_nil))) (pa_cons (pe_callB call_isX (by rfl) C.isn (by decide +kernel) (pa_cons (pv 0) (pa_cons (pe_glob (v := .ref (c 13)) rfl C.g13 rfl) pa_nil))) (pa_cons (pe_callB call_isX (by rfl) C.isn (by decide +kernel) (pa_cons (pv 0) (pa_cons (pe_glob (v := .ref (c 14)) rfl C.g14 rfl) pa_nil))) (pa_cons (pe_callB call_isX (by rfl) C.isn (by decide +kernel) (pa_cons (pv 0) (pa_cons (pe_glob (v := .ref (c 15)) rfl C.g15 rfl) pa_nil))) pa_nil))))))) (
      pss_one (ps_ret (pe_op op_cat (pv 1) (pe_lst (pa_cons (pe_callB call_isX (by rfl) C.isn (by decide +kernel) (pa_cons (pv 0) (pa_cons (pe_glob (v := .ref (c 16)) rfl C.g16 rfl) pa_nil))) pa_nil))))))))), ?_⟩
    refine q_asgL (el_lst (ea_cons (ev_is1 (j := 0) C (ev_var rfl) hi x) (ea_cons (ev_is1 (j := 1) C (ev_var rfl) hi x) (ea_cons (ev_is1 (j := 2) C (ev_var rfl) hi x) ea_nil))) (by simp)) fun p0 H0 n0 e0 h0 => ?_
    refine q_asgL (el_cat (ev_var rfl) h0 (el_lst (ea_cons (ev_is1 (j := 3) C (ev_var rfl) hi (x.ext e0)) (ea_cons (ev_is1 (j := 4) C (ev_var rfl) hi (x.ext e0)) (ea_cons (ev_is1 (j := 5) C (ev_var rfl) hi (x.ext e0)) ea_nil))) (by simp)) (by simp)) fun p1 H1 n1 f1 h1 => ?_
    have e1 := e0.trans f1
    refine q_asgL (el_cat (ev_var rfl) h1 (el_lst (ea_cons (ev_is1 (j := 6) C (ev_var rfl) hi (x.ext e1)) (ea_cons (ev_is1 (j := 7) C (ev_var rfl) hi (x.ext e1)) (ea_cons (ev_is1 (j := 8) C (ev_var rfl) hi (x.ext e1)) ea_nil))) (by simp)) (by simp)) fun p2 H2 n2 f2 h2 => ?_
    have e2 := e1.trans f2
    refine q_asgL (el_cat (ev_var rfl) h2 (el_lst (ea_cons (ev_is1 (j := 9) C (ev_var rfl) hi (x.ext e2)) (ea_cons (ev_is1 (j := 10) C (ev_var rfl) hi (x.ext e2)) (ea_cons (ev_is1 (j := 11) C (ev_var rfl) hi (x.ext e2)) ea_nil))) (by simp)) (by simp)) fun p3 H3 n3 f3 h3 => ?_
    have e3 := e2.trans f3
    refine q_asgL (el_cat (ev_var rfl) h3 (el_lst (ea_cons (ev_is1 (j := 12) C (ev_var rfl) hi (x.ext e3)) (ea_cons (ev_is1 (j := 13) C (ev_var rfl) hi (x.ext e3)) (ea_cons (ev_is1 (j := 14) C (ev_var rfl) hi (x.ext e3)) (ea_cons (ev_is1 (j := 15) C (ev_var rfl) hi (x.ext e3)) ea_nil)))) (by simp)) (by simp)) fun p4 H4 n4 f4 h4 => ?_
    have e4 := e3.trans f4
    refine s_retL (el_cat (ev_var rfl) h4 (el_lst (ea_cons (ev_is1 (j := 16) C (ev_var rfl) hi (x.ext e4)) ea_nil) (by simp)) (by simp)) fun p5 H5 n5 f5 h5 => ?_
    exact kQ p5 H5 (fresh_back e4 n5) (e4.trans f5) h5
theorem scAll : FnScope ["_law_e", "_law_kinds"] ["_law_e"] (defScope sAll) := ⟨rfl, rfl, rfl, by decide +kernel, rfl, by decide +kernel, by decide +kernel⟩
theorem spl_kinds {K : PySem.W.Frag} {c : Nat → Addr} {n i : Nat} {a : Addr} {H : Hp} (hi : i < 21) (x : ExAt c H i a) : SpL (spKinds c n) ([.ref a] ++ []) H ((List.range n).map fun j => V.bl (decide (i = j))) :=
  fun H1 e Q q E => ⟨i, a, rfl, hi, x.ext e, fun p H' np e' h' => q p H' np e' h'⟩
theorem ok_all {fV : Addr} {fdV : FuncData} (F : Fun K "_law_all_kinds" "_law_all_kinds" sAll f fd) (C : Cl K mg c cM) (FV : Fun K "_law_value_kinds" "_law_value_kinds" sValue fV fdV) (bV : Binds K fdV ["_law_e"] [])
    (gV : mg "_law_value_kinds" = some (.ref fV)) : FnOk P w K mg base CX0 2 f fd ["_law_e"] (spKinds c 21) := by
  have GV : FnOk P w K mg base CX0 1 fV fdV ["_law_e"] (spKinds c 17) := ok_value FV C
  refine F.ok scAll (fun vs H Q E h => ?_) (fun cdv A outer s H vs Q E hr h => ?_)
  · obtain ⟨i, a, rfl, _⟩ := h
    rfl
  · obtain ⟨i, a, rfl, hi, x, kQ⟩ := h
    refine ⟨_, pss_cons (ps_set (i := 1) scAll.nd rfl (Or.inl rfl) (pe_op op_cat (pe_call GV hr rfl gV FV.kp bV .nil pass0 (pa_cons (pv 0) pa_nil)) (pe_lst (pa_cons (pe_callB call_isX (by rfl) C.isn (by decide +kernel) (pa_cons (pv 0) (pa_cons (pe_glob (v := .ref (c 17)) rfl C.g17 rfl) pa_nil))) (pa_cons (pe_callB call_isX (by rfl) C.isn (by decide +kernel) (pa_cons (pv 0) (pa_cons (pe_glob (v := .ref (c 18)) rfl C.g18 rfl) pa_nil))) (pa_cons (pe_callB call_isX (by rfl) C.isn (by decide +kernel) (pa_cons (pv 0) (pa_cons (pe_glob (v := .ref (c 19)) rfl C.g19 rfl) pa_nil))) pa_nil))))))
      (pss_one (ps_ret (pe_op op_cat (pv 1) (pe_lst (pa_cons (pe_callB call_isX (by rfl) C.isn (by decide +kernel) (pa_cons (pv 0) (pa_cons (pe_glob (v := .ref (c 20)) rfl C.g20 rfl) pa_nil))) pa_nil))))), ?_⟩
    refine q_asgL (el_catN (el_call (ea_cons (ev_var rfl) ea_nil) (spl_kinds (K := K) hi x)) (el_lst (ea_cons (ev_is1 (j := 17) C (ev_var rfl) hi x) (ea_cons (ev_is1 (j := 18) C (ev_var rfl) hi x) (ea_cons (ev_is1 (j := 19) C (ev_var rfl) hi x) ea_nil))) (by simp)) (by simp)) fun p0 H0 n0 e0 h0 => ?_
    refine s_retL (el_cat (ev_var rfl) h0 (el_lst (ea_cons (ev_is1 (j := 20) C (ev_var rfl) hi (x.ext e0)) ea_nil) (by simp)) (by simp)) fun p1 H1 n1 e1 h1 => ?_
    exact kQ p1 H1 (fresh_back e0 n1) (e0.trans e1) h1
theorem scBases : FnScope ["_law_e"] ["_law_e"] (defScope sBases) := ⟨rfl, rfl, rfl, by decide +kernel, rfl, by decide +kernel, by decide +kernel⟩
theorem ok_bases (F : Fun K "_law_bases" "_law_bases" sBases f fd) (C : Cl K mg c cM) : FnOk P w K mg base CX0 1 f fd ["_law_e"] (spBases c) := by
  refine F.ok scBases (fun vs H Q E h => ?_) (fun cdv A outer s H vs Q E hr h => ?_)
  · obtain ⟨i, a, rfl, _⟩ := h
    rfl
  · obtain ⟨i, a, rfl, hi, x, kQ⟩ := h
    refine ⟨_, pss_one (ps_ret (pe_lst (pa_cons (pe_callB call_isX (by rfl) C.isn (by decide +kernel) (pa_cons (pv 0) (pa_cons (pe_glob (v := .ref cM) rfl C.gM rfl) pa_nil)))
      (pa_cons (pe_callB call_isX (by rfl) C.isn (by decide +kernel) (pa_cons (pv 0) (pa_cons (pe_bltn (v := .ty "ValueError") (by rfl) C.noV (by decide +kernel) rfl) pa_nil)))
      (pa_cons (pe_callB call_isX (by rfl) C.isn (by decide +kernel) (pa_cons (pv 0) (pa_cons (pe_bltn (v := .ty "KeyError") (by rfl) C.noK (by decide +kernel) rfl) pa_nil)))
      (pa_cons (pe_callB call_isX (by rfl) C.isn (by decide +kernel) (pa_cons (pv 0) (pa_cons (pe_bltn (v := .ty "RuntimeError") (by rfl) C.noR (by decide +kernel) rfl) pa_nil))) pa_nil)))))), ?_⟩
    refine s_retL (el_lst (ea_cons (ev_isC C (ev_var rfl) hi x (.own _) (C.kitM i hi)) (ea_cons (ev_isC C (ev_var rfl) hi x (.ty _) (C.kitV i hi)) (ea_cons (ev_isC C (ev_var rfl) hi x (.ty _) (C.kitK i hi))
      (ea_cons (ev_isC C (ev_var rfl) hi x (.ty _) (C.kitR i hi)) ea_nil)))) (by simp)) fun p H1 np e1 h1 => ?_
    exact kQ p H1 np e1 h1
end
end K02
set_option maxHeartbeats 8000000
namespace K02
open PySem L2 Evl My
abbrev sPlace : Stmt := top 29
abbrev sName : Stmt := top 30

/-- the makers of the classes -/
structure Mks (P : Program) (w : World) (K : PySem.W.Frag) (mg : Str → Option Value) (base : Heap) (c : Nat → Addr) : Prop where
  m : ∀ i, i < 17 → Mkr P w K mg base (c i) "value"
  ms : Mkr P w K mg base (c 17) "at"
  mr : Mkr2 P w K mg base (c 18) "word" "value"
  mc : Mkr0 P w K mg base (c 19)
  mn : Mkr0 P w K mg base (c 20)

/-- at a an exception of the i-th class that keeps v -/
def ExVal (c : Nat → Addr) (H : Hp) (i : Nat) (f : Str) (v : V) (a : Addr) : Prop := ∃ dx, H a = some (exo a (c i) (some dx)) ∧ H dx = some (exd dx [(f, v)])
theorem ExVal.ext {c : Nat → Addr} {H H' : Hp} {i : Nat} {f : Str} {v : V} {a : Addr} (x : ExVal c H i f v a) (e : Ex H H') : ExVal c H' i f v a := by
  obtain ⟨dx, h1, h2⟩ := x
  exact ⟨dx, e _ _ h1, e _ _ h2⟩
theorem ExVal.at {c : Nat → Addr} {H : Hp} {i : Nat} {f : Str} {v : V} {a : Addr} (x : ExVal c H i f v a) : ExAt c H i a := by
  obtain ⟨dx, h1, h2⟩ := x
  refine ⟨some dx, h1, fun dy z => ?_⟩
  cases z
  exact ⟨_, h2⟩
/-- one of each class from the j-th on -/
def Exs (c : Nat → Addr) (H : Hp) (v : V) (j : Nat) (as : List Addr) : Prop := ∀ m a, as[m]? = some a → ExVal c H (j + m) "value" v a
theorem Exs.ext {c : Nat → Addr} {H H' : Hp} {v : V} {j : Nat} {as : List Addr} (x : Exs c H v j as) (e : Ex H H') : Exs c H' v j as := fun m a h => (x m a h).ext e
theorem Exs.cat {c : Nat → Addr} {H : Hp} {v : V} {as bs : List Addr} {n : Nat} (hn : as.length = n) (x : Exs c H v 0 as) (y : Exs c H v n bs) : Exs c H v 0 (as ++ bs) := fun m a h => by
  by_cases hm : m < as.length
  · rw [List.getElem?_append_left hm] at h
    exact x m a h
  · rw [List.getElem?_append_right (by omega)] at h
    have q := y (m - as.length) a h
    have e : n + (m - as.length) = 0 + m := by omega
    rw [e] at q
    exact q
def EvXs (c : Nat → Addr) (ta : TA) (σ : L2.St) (H : Hp) (v : V) (j n : Nat) : Prop := ∀ H1, Ex H H1 → ∀ Q : List V → Hp → Prop,
  (∀ as H2, Ex H1 H2 → as.length = n → Exs c H2 v j as → Q (as.map V.ref) H2) → ta σ H1 Q
def EvXL (c : Nat → Addr) (te : TE) (σ : L2.St) (H : Hp) (v : V) (j n : Nat) : Prop := ∀ H1, Ex H H1 → ∀ Q : VK,
  (∀ p as H2, H1 p = none → Ex H1 H2 → H2 p = some (.lst (as.map V.ref)) → as.length = n → Exs c H2 v j as → Q (.ref p) H2) → te σ H1 Q
section
variable {c : Nat → Addr} {σ : L2.St} {H : Hp} {v : V} {j n m : Nat} {te tb : TE} {ta : TA} {as : List Addr}
theorem exs_nil : EvXs c tNil σ H v j 0 := fun H1 e Q q => q [] H1 (Ex.refl H1) rfl fun m a h => by simp at h
theorem exs_cons (h : EvX te σ H (c j) [("value", v)]) (hr : EvXs c ta σ H v (j + 1) n) : EvXs c (tCons te ta) σ H v j (n + 1) := fun H1 e Q q =>
  h H1 e _ fun a dx H2 _ e2 h1 h2 => hr H2 (e.trans e2) _ fun bs H3 e3 hl x => q (a :: bs) H3 (e2.trans e3) (by rw [List.length_cons, hl]) fun k b hb => by
    cases k with
    | zero =>
      have z : a = b := by simpa using hb
      subst z
      exact ⟨dx, e3 _ _ h1, e3 _ _ h2⟩
    | succ k =>
      have z := x k b (by simpa using hb)
      have e' : j + 1 + k = j + (k + 1) := by omega
      rw [e'] at z
      exact z
theorem exl_lst (h : EvXs c ta σ H v j n) (hn : n ≤ 100) : EvXL c (tLst ta) σ H v j n := fun H1 e Q q =>
  h H1 e _ fun bs H2 e2 hl x => ⟨by rw [List.length_map, hl]; exact sz_of (by omega), fun p hp => q p bs _ (fresh_back e2 hp) (e2.trans (Ex.new hp)) upd_same hl (x.ext (Ex.new hp))⟩
theorem exl_cat {l : Addr} {ta : TE} (ha : Ev ta σ H (.ref l)) (hl : H l = some (.lst (as.map V.ref))) (hn : as.length = n) (x : Exs c H v 0 as) (hb : EvXL c tb σ H v n m) (z : n + m ≤ 100) :
    EvXL c (tOp rCat ta tb) σ H v 0 (n + m) := fun H1 e Q q =>
  ha H1 e _ fun H2 e2 => hb H2 (e.trans e2) _ fun p bs H3 _ e3 h3 hm y =>
    ⟨l, p, as.map V.ref, bs.map V.ref, rfl, rfl, e3 l _ (e2 l _ (e l _ hl)), h3, sz_of (by rw [List.length_map, List.length_map]; omega), fun r hr => by
      have eN : Ex H3 (upd H3 r (.lst (as.map V.ref ++ bs.map V.ref))) := Ex.new hr
      refine q r (as ++ bs) _ (fresh_back (e2.trans e3) hr) ((e2.trans e3).trans eN) (by rw [List.map_append]; exact upd_same) (by rw [List.length_append, hn, hm]) ?_
      exact Exs.cat hn (x.ext (((e.trans e2).trans e3).trans eN)) (y.ext eN)⟩
theorem q_asgX {i : Nat} {D : Ends} {tz : TS} (h : EvXL c te σ H v j n) (k : ∀ p as H1, H p = none → Ex H H1 → H1 p = some (.lst (as.map V.ref)) → as.length = n → Exs c H1 v j as → tz D (σ.set i (some (.ref p))) H1) :
    tSeq (tAsg te (gName i)) tz D σ H := h H (Ex.refl H) _ fun p as H1 hp e h1 hl x => k p as H1 hp e h1 hl x
theorem s_retX {D : Ends} (h : EvXL c te σ H v j n) (k : ∀ p as H1, H p = none → Ex H H1 → H1 p = some (.lst (as.map V.ref)) → as.length = n → Exs c H1 v j as → D.rt (.ref p) H1) :
    tRet te D σ H := h H (Ex.refl H) _ fun p as H1 hp e h1 hl x => k p as H1 hp e h1 hl x
end

/-- one exception of each of the seventeen classes that keep a value -/
def spMade (c : Nat → Addr) : Sp := fun vs H Q _ => ∃ v, vs = [v] ∧ ∀ p as H', H p = none → Ex H H' → H' p = some (.lst (as.map V.ref)) → as.length = 17 → Exs c H' v 0 as → Q (.ref p) H'
theorem exl_made {c : Nat → Addr} {ta : TA} {σ : L2.St} {H : Hp} {v : V} {E : XK} (h : EvA ta σ H [v]) : EvXL c (tCall (spMade c) [] E ta) σ H v 0 17 := fun H1 e Q q =>
  h H1 e _ fun H2 e2 => ⟨v, rfl, fun p as H3 hp e3 h3 hl x => q p as H3 (fresh_back e2 hp) (e2.trans e3) h3 hl x⟩
section
variable {P : Program} {w : World} {K : PySem.W.Frag} {mg : Str → Option Value} {base : Heap} {f : Addr} {fd : FuncData} {c : Nat → Addr} {cM : Addr}
theorem scPlace : FnScope ["_law_one", "_law_found"] ["_law_one"] (defScope sPlace) := ⟨rfl, rfl, rfl, by decide +kernel, rfl, by decide +kernel, by decide +kernel⟩
theorem ok_Place (F : Fun K "_law_by_place" "_law_by_place" sPlace f fd) (C : Cl K mg c cM) (M : Mks P w K mg base c) : FnOk P w K mg base CX0 3 f fd ["_law_one"] (spMade c) := by
  refine F.ok scPlace (fun vs H Q E h => ?_) (fun cdv A outer s H vs Q E hr h => ?_)
  · obtain ⟨v, rfl, _⟩ := h
    rfl
  · obtain ⟨v, rfl, kQ⟩ := h
    refine ⟨_, pss_cons (ps_set (i := 1) scPlace.nd rfl (Or.inl rfl) (pe_lst (pa_cons (pe_mk1 (M.m 0 (by decide)) hr rfl C.g0 (pv 0)) (pa_cons (pe_mk1 (M.m 1 (by decide)) hr rfl C.g1 (pv 0)) (pa_cons (pe_mk1 (M.m 2 (by decide)) hr rfl C.g2 (pv 0)) (pa_cons (pe_mk1 (M.m 3 (by decide)) hr rfl C.g3 (pv 0)) (pa_cons (pe_mk1 (M.m 4 (by decide)) hr rfl C.g4 (pv 0)) pa_nil))))))) (
      pss_cons (ps_set (i := 1) scPlace.nd rfl (Or.inl rfl) (pe_op op_cat (pv 1) (pe_lst (pa_cons (pe_mk1 (M.m 5 (by decide)) hr rfl C.g5 (pv 0)) (pa_cons (pe_mk1 (M.m 6 (by decide)) hr rfl C.g6 (pv 0)) (pa_cons (pe_mk1 (M.m 7 (by decide)) hr rfl C.g7 (pv 0)) (pa_cons (pe_mk1 (M.m 8 (by decide)) hr rfl C.g8 (pv 0)) (pa_cons (pe_mk1 (M.m 9 (by decide)) hr rfl C.g9 (pv 0)) pa_nil)))))))) (
      pss_cons (ps_set (i := 1) scPlace.nd rfl (Or.inl rfl) (pe_op op_cat (pv 1) (pe_lst (pa_cons (pe_mk1 (M.m 10 (by decide)) hr rfl C.g10 (pv 0)) (pa_cons (pe_mk1 (M.m 11 (by decide)) hr rfl C.g11 (pv 0)) (pa_cons (pe_mk1 (M.m 12 (by decide)) hr rfl C.g12 (pv 0)) (pa_cons (pe_mk1 (M.m 13 (by decide)) hr rfl C.g13 (pv 0)) (pa_cons (pe_mk1 (M.m 14 (by decide)) hr rfl C.g14 (pv 0)) pa_nil)))))))) (
      pss_one (ps_ret (pe_op op_cat (pv 1) (pe_lst (pa_cons (pe_mk1 (M.m 15 (by decide)) hr rfl C.g15 (pv 0)) (pa_cons (pe_mk1 (M.m 16 (by decide)) hr rfl C.g16 (pv 0)) pa_nil)))))))), ?_⟩
    refine q_asgX (c := c) (j := 0) (exl_lst (exs_cons (ex_one (ev_var rfl)) (exs_cons (ex_one (ev_var rfl)) (exs_cons (ex_one (ev_var rfl)) (exs_cons (ex_one (ev_var rfl)) (exs_cons (ex_one (ev_var rfl)) exs_nil))))) (by decide)) fun p0 a0 H0 n0 e0 h0 l0 x0 => ?_
    refine q_asgX (exl_cat (ev_var rfl) h0 l0 x0 (exl_lst (exs_cons (ex_one (ev_var rfl)) (exs_cons (ex_one (ev_var rfl)) (exs_cons (ex_one (ev_var rfl)) (exs_cons (ex_one (ev_var rfl)) (exs_cons (ex_one (ev_var rfl)) exs_nil))))) (by decide)) (by decide)) fun p1 a1 H1 n1 f1 h1 l1 x1 => ?_
    have e1 := e0.trans f1
    refine q_asgX (exl_cat (ev_var rfl) h1 l1 x1 (exl_lst (exs_cons (ex_one (ev_var rfl)) (exs_cons (ex_one (ev_var rfl)) (exs_cons (ex_one (ev_var rfl)) (exs_cons (ex_one (ev_var rfl)) (exs_cons (ex_one (ev_var rfl)) exs_nil))))) (by decide)) (by decide)) fun p2 a2 H2 n2 f2 h2 l2 x2 => ?_
    have e2 := e1.trans f2
    refine s_retX (exl_cat (ev_var rfl) h2 l2 x2 (exl_lst (exs_cons (ex_one (ev_var rfl)) (exs_cons (ex_one (ev_var rfl)) exs_nil)) (by decide)) (by decide)) fun p3 a3 H3 n3 f3 h3 l3 x3 => ?_
    exact kQ p3 a3 H3 (fresh_back e2 n3) (e2.trans f3) h3 l3 x3
theorem scName : FnScope ["_law_one", "_law_found"] ["_law_one"] (defScope sName) := ⟨rfl, rfl, rfl, by decide +kernel, rfl, by decide +kernel, by decide +kernel⟩
theorem ok_Name (F : Fun K "_law_by_name" "_law_by_name" sName f fd) (C : Cl K mg c cM) (M : Mks P w K mg base c) : FnOk P w K mg base CX0 3 f fd ["_law_one"] (spMade c) := by
  refine F.ok scName (fun vs H Q E h => ?_) (fun cdv A outer s H vs Q E hr h => ?_)
  · obtain ⟨v, rfl, _⟩ := h
    rfl
  · obtain ⟨v, rfl, kQ⟩ := h
    refine ⟨_, pss_cons (ps_set (i := 1) scName.nd rfl (Or.inl rfl) (pe_lst (pa_cons (pe_mk1K (M.m 0 (by decide)) hr rfl C.g0 (pv 0)) (pa_cons (pe_mk1K (M.m 1 (by decide)) hr rfl C.g1 (pv 0)) (pa_cons (pe_mk1K (M.m 2 (by decide)) hr rfl C.g2 (pv 0)) (pa_cons (pe_mk1K (M.m 3 (by decide)) hr rfl C.g3 (pv 0)) pa_nil)))))) (
      pss_cons (ps_set (i := 1) scName.nd rfl (Or.inl rfl) (pe_op op_cat (pv 1) (pe_lst (pa_cons (pe_mk1K (M.m 4 (by decide)) hr rfl C.g4 (pv 0)) (pa_cons (pe_mk1K (M.m 5 (by decide)) hr rfl C.g5 (pv 0)) (pa_cons (pe_mk1K (M.m 6 (by decide)) hr rfl C.g6 (pv 0)) pa_nil)))))) (
      pss_cons (ps_set (i := 1) scName.nd rfl (Or.inl rfl) (pe_op op_cat (pv 1) (pe_lst (pa_cons (pe_mk1K (M.m 7 (by decide)) hr rfl C.g7 (pv 0)) (pa_cons (pe_mk1K (M.m 8 (by decide)) hr rfl C.g8 (pv 0)) (pa_cons (pe_mk1K (M.m 9 (by decide)) hr rfl C.g9 (pv 0)) pa_nil)))))) (
      pss_cons (ps_set (i := 1) scName.nd rfl (Or.inl rfl) (pe_op op_cat (pv 1) (pe_lst (pa_cons (pe_mk1K (M.m 10 (by decide)) hr rfl C.g10 (pv 0)) (pa_cons (pe_mk1K (M.m 11 (by decide)) hr rfl C.g11 (pv 0)) (pa_cons (pe_mk1K (M.m 12 (by decide)) hr rfl C.g12 (pv 0)) (pa_cons (pe_mk1K (M.m 13 (by decide)) hr rfl C.g13 (pv 0)) pa_nil))))))) (
      pss_one (ps_ret (pe_op op_cat (pv 1) (pe_lst (pa_cons (pe_mk1K (M.m 14 (by decide)) hr rfl C.g14 (pv 0)) (pa_cons (pe_mk1K (M.m 15 (by decide)) hr rfl C.g15 (pv 0)) (pa_cons (pe_mk1K (M.m 16 (by decide)) hr rfl C.g16 (pv 0)) pa_nil)))))))))), ?_⟩
    refine q_asgX (c := c) (j := 0) (exl_lst (exs_cons (ex_oneK (ev_var rfl)) (exs_cons (ex_oneK (ev_var rfl)) (exs_cons (ex_oneK (ev_var rfl)) (exs_cons (ex_oneK (ev_var rfl)) exs_nil)))) (by decide)) fun p0 a0 H0 n0 e0 h0 l0 x0 => ?_
    refine q_asgX (exl_cat (ev_var rfl) h0 l0 x0 (exl_lst (exs_cons (ex_oneK (ev_var rfl)) (exs_cons (ex_oneK (ev_var rfl)) (exs_cons (ex_oneK (ev_var rfl)) exs_nil))) (by decide)) (by decide)) fun p1 a1 H1 n1 f1 h1 l1 x1 => ?_
    have e1 := e0.trans f1
    refine q_asgX (exl_cat (ev_var rfl) h1 l1 x1 (exl_lst (exs_cons (ex_oneK (ev_var rfl)) (exs_cons (ex_oneK (ev_var rfl)) (exs_cons (ex_oneK (ev_var rfl)) exs_nil))) (by decide)) (by decide)) fun p2 a2 H2 n2 f2 h2 l2 x2 => ?_
    have e2 := e1.trans f2
    refine q_asgX (exl_cat (ev_var rfl) h2 l2 x2 (exl_lst (exs_cons (ex_oneK (ev_var rfl)) (exs_cons (ex_oneK (ev_var rfl)) (exs_cons (ex_oneK (ev_var rfl)) (exs_cons (ex_oneK (ev_var rfl)) exs_nil)))) (by decide)) (by decide)) fun p3 a3 H3 n3 f3 h3 l3 x3 => ?_
    have e3 := e2.trans f3
    refine s_retX (exl_cat (ev_var rfl) h3 l3 x3 (exl_lst (exs_cons (ex_oneK (ev_var rfl)) (exs_cons (ex_oneK (ev_var rfl)) (exs_cons (ex_oneK (ev_var rfl)) exs_nil))) (by decide)) (by decide)) fun p4 a4 H4 n4 f4 h4 l4 x4 => ?_
    exact kQ p4 a4 H4 (fresh_back e3 n4) (e3.trans f4) h4 l4 x4
end
end K02
set_option maxHeartbeats 8000000
namespace K02
open PySem L2 Evl My
abbrev sLaw : Stmt := top 32

/-- the defs of the law -/
structure Ds (P : Program) (w : World) (K : PySem.W.Frag) (mg : Str → Option Value) (base : Heap) (c : Nat → Addr) : Prop where
  pool : Df P w K mg base "_law_pool" ["_law_script", "_law_k"] 1 (spPool K)
  take : Df P w K mg base "_law_take" ["_law_pool_here", "_law_sides"] 1 spTake
  at' : Df P w K mg base "_law_at" ["_law_kinds"] 1 (spAt K)
  all : Df P w K mg base "_law_all_kinds" ["_law_e"] 2 (spKinds c 21)
  bases : Df P w K mg base "_law_bases" ["_law_e"] 1 (spBases c)
  place : Df P w K mg base "_law_by_place" ["_law_one"] 3 (spMade c)
  name : Df P w K mg base "_law_by_name" ["_law_one"] 3 (spMade c)
structure Tx (K : PySem.W.Frag) (mg : Str → Option Value) (c : Nat → Addr) : Prop extends Txt mg where
  max : mg "max" = none
  min : mg "min" = none
  enumerate : mg "enumerate" = none
  repr : mg "repr" = none
  noValue : ∀ i, i < 19 → PySem.W.findIn K (.ref (c i)) "value" = some none
  noAt : PySem.W.findIn K (.ref (c 17)) "at" = some none
  noWord : PySem.W.findIn K (.ref (c 18)) "word" = some none

theorem given21 : ∀ i, i < 21 → given 21 (fun j => decide (i = j)) (fun j => V.int (j : Int)) = [V.int (i : Int)] := by decide
section
variable {K : PySem.W.Frag} {c : Nat → Addr} {σ : L2.St} {H : Hp} {te : TE} {E E' : XK} {i : Nat} {a : Addr}
/-- _law_at(_law_all_kinds(e)) -/
theorem el_atall (h : Ev te σ H (.ref a)) (hi : i < 21) (x : ExAt c H i a) : EvL (tCall (spAt K) [] E (tCons (tCall (spKinds c 21) [] E' (tCons te tNil)) tNil)) σ H ([(i : Int)].map V.int) := fun H1 e Q q =>
  h H1 e _ fun H2 e2 => ⟨i, a, rfl, hi, x.ext (e.trans e2), fun p H3 np e3 h3 => ⟨p, fun j => decide (i = j), 21, rfl, SqL.of h3, by decide, fun r H4 nr e4 h4 =>
    q r H4 (fresh_back (e2.trans e3) nr) ((e2.trans e3).trans e4) (by rw [given21 i hi] at h4; exact h4)⟩⟩
/-- the same of an exception that is made there -/
theorem el_atmade (h : EvX0 te σ H (c i)) (hi : i < 21) : EvL (tCall (spAt K) [] E (tCons (tCall (spKinds c 21) [] E' (tCons te tNil)) tNil)) σ H ([(i : Int)].map V.int) := fun H1 e Q q =>
  h H1 e _ fun a H2 _ e2 h2 => ⟨i, a, rfl, hi, ⟨none, h2, fun dx z => nomatch z⟩, fun p H3 np e3 h3 => ⟨p, fun j => decide (i = j), 21, rfl, SqL.of h3, by decide, fun r H4 nr e4 h4 =>
    q r H4 (fresh_back (e2.trans e3) nr) ((e2.trans e3).trans e4) (by rw [given21 i hi] at h4; exact h4)⟩⟩
theorem el_bases (h : Ev te σ H (.ref a)) (hi : i < 21) (x : ExAt c H i a) : EvL (tCall (spBases c) [] E (tCons te tNil)) σ H ((basesOf i).map V.bl) := fun H1 e Q q =>
  h H1 e _ fun H2 e2 => ⟨i, a, rfl, hi, x.ext (e.trans e2), fun p H3 np e3 h3 => q p H3 (fresh_back e2 np) (e2.trans e3) h3⟩
theorem el_basesmade (h : EvX0 te σ H (c i)) (hi : i < 21) : EvL (tCall (spBases c) [] E (tCons te tNil)) σ H ((basesOf i).map V.bl) := fun H1 e Q q =>
  h H1 e _ fun a H2 _ e2 h2 => ⟨i, a, rfl, hi, ⟨none, h2, fun dx z => nomatch z⟩, fun p H3 np e3 h3 => q p H3 (fresh_back e2 np) (e2.trans e3) h3⟩
/-- two lists of the same numbers are not unlike -/
theorem et_neInts {ta tb : TE} {ns : List Int} (ha : EvL ta σ H (ns.map V.int)) (hb : EvL tb σ H (ns.map V.int)) (hs : SeqAt.shaped (.list (ns.map PyData.int)) = true) : EvT (tTest (tOp (rNeD K) ta tb)) σ H false :=
  et_test (ev_opLL ha hb fun p q H1 hp hq _ => rv_neSame (d := .list (ns.map PyData.int)) (fun H2 e => dp_ints (e _ _ hp)) (fun H2 e => dp_ints (e _ _ hq)) hs)
theorem et_neBools {ta tb : TE} {bs : List Bool} (ha : EvL ta σ H (bs.map V.bl)) (hb : EvL tb σ H (bs.map V.bl)) (hs : SeqAt.shaped (.list (bs.map PyData.bool)) = true) : EvT (tTest (tOp (rNeD K) ta tb)) σ H false :=
  et_test (ev_opLL ha hb fun p q H1 hp hq _ => rv_neSame (d := .list (bs.map PyData.bool)) (fun H2 e => dp_bools (e _ _ hp)) (fun H2 e => dp_bools (e _ _ hq)) hs)
/-- two texts that are the same -/
theorem et_neText {ta tb : TE} {s : Str} (ha : Ev ta σ H (.str s)) (hb : Ev tb σ H (.str s)) : EvT (tTest (tOp rNe ta tb)) σ H false :=
  et_is (et_test (ev_op ha hb (rv_ne rfl))) (by simp)
theorem shapedInt (i : Int) : SeqAt.shaped (.list [PyData.int i]) = true := by
  simp [SeqAt.shaped, PyData.canLay0, PyData.canLayAll0, PyData.depth, PyData.depthAll]
end
def bIx (i : Nat) : Nat := if i < 13 then 0 else if i < 15 then 1 else 2
def due (j : Nat) : List Bool := if j = 0 then [true, true, false, false] else if j = 1 then [false, false, true, false] else [false, false, false, true]
theorem due_ix : ∀ i, i < 17 → due (bIx i) = basesOf i := by decide
theorem base_ix : ∀ i : Nat, i < 17 → atI ((List.replicate (13 : Int).toNat [V.int 0]).flatten ++ [V.int 1, V.int 1, V.int 2, V.int 2]) (i : Int) = some (V.int (Int.ofNat (bIx i))) := by decide
theorem bIx_lt : ∀ i, i < 17 → bIx i < 3 := by decide
theorem shapedBases : ∀ i, i < 21 → SeqAt.shaped (.list ((basesOf i).map PyData.bool)) = true := by
  intro i _
  simp [basesOf, SeqAt.shaped, PyData.canLay0, PyData.canLayAll0, PyData.depth, PyData.depthAll]

/-- what may stand in the law's list of values -/
theorem gdNone {K : PySem.W.Frag} {H : Hp} : Gd K H .non .none := ⟨.non, rfl, by decide +kernel, by decide⟩
theorem gdBool {K : PySem.W.Frag} {H : Hp} (b : Bool) : Gd K H (.bl b) (.bool b) := ⟨.bl b, rfl, by cases b <;> decide +kernel, by simp [PyData.depth]⟩
theorem gdInt {K : PySem.W.Frag} {H : Hp} {n : Int} (h0 : -1000000000 ≤ n) (h1 : n ≤ 1000000000) : Gd K H (.int n) (.int n) := by
  refine ⟨.int n, ?_, ?_, by simp [PyData.depth]⟩
  · have q : n.natAbs < 2 ^ 31 := by omega
    have lg : n.natAbs.log2 < 1920 := by
      by_cases z : n.natAbs = 0
      · rw [z]
        decide
      · exact Nat.lt_of_lt_of_le ((Nat.log2_lt z).mpr q) (by decide)
    simp only [PyData.showable, decide_eq_true_eq]
    exact lg
  · have q := int_text_length_le10 (a := n) (k := 10) (by decide) (by omega)
    simp only [PyData.shown]
    show (Str.ofString (toString n)).length ≤ 2000
    rw [ofString_length]
    omega
theorem gdText {K : PySem.W.Frag} {H : Hp} : Gd K H (.str "a b") (.str "a b") := ⟨.str _, rfl, by decide +kernel, by decide⟩

def names : List Str := ["_law_script", "_law_k", "_law_pool_here", "_law_one", "_law_found", "_law_spot", "_law_e", "_law_base", "_law_due", "_law_some", "_law_bases_here"]
def spLaw (K : PySem.W.Frag) : Sp := fun vs H Q _ => ∃ (a : Addr) (ns : List Int), vs = [.ref a] ∧ SqL K H a (ns.map V.int) ∧ ns.length ≤ 63 ∧ ∀ H', Q (.bl true) H'
section
variable {P : Program} {w : World} {K : PySem.W.Frag} {mg : Str → Option Value} {base : Heap} {f : Addr} {fd : FuncData} {c : Nat → Addr} {cM : Addr}
/-- what stands below the law's values -/
theorem gds {K : PySem.W.Frag} {H : Hp} {t1 t2 l d : Addr} {n : Int} (h1 : H t1 = some (.tup [.str "low", .str "", .int 1])) (h2 : H t2 = some (.tup [.ref t1])) (hl : H l = some (.lst [.int 1])) (nl : l ≠ sysModules)
    (hd : H d = some (.dK [])) (n0 : 0 ≤ n) (n1 : n < 1000000000) :
    ∀ (m : Nat) (v : V), ([V.non, .int n, .ref t2, .ref l, .str "a b", .bl true, .int (-7), .ref d] : List V)[m]? = some v → ∃ e, Gd K H v e := by
  intro m v hv
  rcases m with _ | _ | _ | _ | _ | _ | _ | _ | m
  · cases hv; exact ⟨_, gdNone⟩
  · cases hv; exact ⟨_, gdInt (by omega) (by omega)⟩
  · cases hv
    refine ⟨.tuple [.tuple [.str "low", .str "", .int 1]], .tup (SqT.of h2) (.cons (.tup (SqT.of h1) (.cons (.str _) (.cons (.str _) (.cons (.int _) .nil)))) .nil), ?_, ?_, ?_⟩
    · decide +kernel
    · decide +kernel
    · decide +kernel
  · cases hv
    refine ⟨.list [.int 1], .lst (SqL.of hl) nl (.cons (.int _) .nil), ?_, ?_, ?_⟩
    · decide +kernel
    · decide +kernel
    · decide +kernel
  · cases hv; exact ⟨_, gdText⟩
  · cases hv; exact ⟨_, gdBool true⟩
  · cases hv; exact ⟨_, gdInt (by omega) (by omega)⟩
  · cases hv
    refine ⟨.dict [], .dct hd, ?_, ?_, ?_⟩
    · decide +kernel
    · decide +kernel
    · decide +kernel
  · simp at hv
theorem gdPair {K : PySem.W.Frag} {H : Hp} {v : V} {d : PyData} (g : Gd K H v d) : (PyData.list [.str "name", d]).showable = true ∧ (PyData.list [.str "name", d]).shown.length ≤ 10000 ∧ (PyData.list [.str "name", d]).depth ≤ 30 := by
  refine ⟨?_, ?_, ?_⟩
  · simp [PyData.showable, PyData.showableAll, g.sh]
  · have e : (PyData.list [.str "name", d]).shown = textFrom 0 "[" [reprText "name", d.shown] ++ "]" := by
      simp only [PyData.shown, PyData.shownAll]
      rfl
    rw [e, strLen_append]
    have r : (reprText "name").length = 6 := by decide +kernel
    have e2 : textFrom 0 "[" [reprText "name", d.shown] = ("[" ++ "" ++ reprText "name") ++ ", " ++ d.shown := rfl
    have z := g.sz
    rw [e2, strLen_append, strLen_append, strLen_append, strLen_append, r]
    have q1 : (("[" : Str)).length = 1 := by decide +kernel
    have q2 : (("" : Str)).length = 0 := by decide +kernel
    have q3 : ((", " : Str)).length = 2 := by decide +kernel
    have q4 : (("]" : Str)).length = 1 := by decide +kernel
    omega
  · have z := g.dp
    simp [PyData.depth, PyData.depthAll]
    omega
/-- the arguments of the law's own row of numbers -/
theorem turns {j : Int} (h0 : 0 ≤ j) (h1 : j ≤ 63) : 0 ≤ (if (if (2 : Int) < j then 2 else j) > 1 then (if (2 : Int) < j then 2 else j) else 1) ∧ (if (if (2 : Int) < j then 2 else j) > 1 then (if (2 : Int) < j then 2 else j) else 1) ≤ 63 := by
  split <;> split <;> omega

theorem scLaw : FnScope ["_law_script", "_law_k", "_law_pool_here", "_law_one", "_law_found", "_law_spot", "_law_e", "_law_base", "_law_due", "_law_some", "_law_bases_here"] ["_law_script"] (defScope sLaw) := ⟨rfl, rfl, rfl, by decide +kernel, rfl, by decide +kernel, by decide +kernel⟩
theorem ok_law (F : Fun K "law" "law" sLaw f fd) (T : Tx K mg c) (C : Cl K mg c cM) (M : Mks P w K mg base c) (D : Ds P w K mg base c) : FnG P w K mg base CX0 6 f fd ["_law_script"] (spLaw K) := by
  refine FnG.byBody F scLaw (fun vs H Q E h => ?_) (fun cdv A outer s H vs Q E hg hr h => ?_)
  · obtain ⟨a, ns, rfl, _⟩ := h
    rfl
  · obtain ⟨a, ns, rfl, hS, hlen, kQ⟩ := h
    have hr1 : Room 1 _ := hr.mono (by decide)
    have hr2 : Room 2 _ := hr.mono (by decide)
    have hr3 : Room 3 _ := hr.mono (by decide)
    have hG : ∀ env, (A.deeper env).guards = some [] := fun _ => hg
    refine ⟨_, PSs.nox (pss_cons (ps_for PassesOwn.never rfl (pi_range1 rfl T.range (pa_cons (pe_callB (call_max2 rfl) (by rfl) T.max (by decide +kernel) (pa_cons pe_int (pa_cons (pe_callB (call_min2 rfl) (by rfl) T.min (by decide +kernel) (pa_cons (pe_callB call_len_seq (by rfl) T.len (by decide +kernel) (pa_cons (pv 0) pa_nil)) (pa_cons pe_int pa_nil))) pa_nil))) pa_nil)) (pg_name (i := 1) scLaw.nd rfl (Or.inl rfl)) (pss_cons (ps_set (i := 2) scLaw.nd rfl (Or.inl rfl) (pe_df D.pool hr1 rfl (pa_cons (pv 0) (pa_cons (pv 1) pa_nil))))
      (pss_one (ps_for PassesOwn.never rfl (pi_list (pe_lst (pa_cons pe_non (pa_cons (pe_df D.take hr1 rfl (pa_cons (pv 2) (pa_cons (pe_op op_pow pe_int pe_int) pa_nil))) (pa_cons (pe_tup (pa_cons (pe_tup (pa_cons pe_str (pa_cons pe_str (pa_cons pe_int pa_nil)))) pa_nil)) (pa_cons (pe_lstB (pa_cons pe_int pa_nil)) (pa_cons pe_str (pa_cons pe_bl (pa_cons (pe_un un_neg pe_int) (pa_cons pe_dnewK pa_nil)))))))))) (pg_name (i := 3) scLaw.nd rfl (Or.inl rfl)) (pss_cons (ps_for PassesOwn.never rfl (pi_list (pe_lst (pa_cons (pe_df D.place hr3 rfl (pa_cons (pv 3) pa_nil)) (pa_cons (pe_df D.name hr3 rfl (pa_cons (pv 3) pa_nil)) pa_nil)))) (pg_name (i := 4) scLaw.nd rfl (Or.inl rfl)) (pss_one (ps_for PassesOwn.never rfl (pi_enum (by rfl) T.enumerate (pa_cons (pv 4) pa_nil)) (pg_tup rfl (pgs_cons (pg_name (i := 5) scLaw.nd rfl (Or.inl rfl)) (pgs_cons (pg_name (i := 6) scLaw.nd rfl (Or.inl rfl)) pgs_nil))) (pss_cons (ps_if (PW.pt (pw_or (pt_cmpR op_ne (pe_callB (call_repr (hG _) hr1) (by rfl) T.repr (by decide +kernel) (pa_cons (pe_exAt (pv 6)) pa_nil)) (pe_callB (call_repr (hG _) hr1) (by rfl) T.repr (by decide +kernel) (pa_cons (pv 3) pa_nil)) (nomark _)) (pw_or1 (pt_cmpR (op_neD hr.units) (pe_df D.at' hr1 rfl (pa_cons (pe_df D.all hr2 rfl (pa_cons (pv 6) pa_nil)) pa_nil)) (pe_lst (pa_cons (pv 5) pa_nil)) (nomark _))))) (pss_one (ps_ret pe_bl)) pss_nil)
      (pss_cons (ps_set (i := 7) scLaw.nd rfl (Or.inl rfl) (pe_op op_cat (pe_op op_rep (pe_lst (pa_cons pe_int pa_nil)) pe_int) (pe_lst (pa_cons pe_int (pa_cons pe_int (pa_cons pe_int (pa_cons pe_int pa_nil)))))))
      (pss_cons (ps_set (i := 8) scLaw.nd rfl (Or.inl rfl) (pe_lst (pa_cons (pe_lst (pa_cons pe_bl (pa_cons pe_bl (pa_cons pe_bl (pa_cons pe_bl pa_nil))))) (pa_cons (pe_lst (pa_cons pe_bl (pa_cons pe_bl (pa_cons pe_bl (pa_cons pe_bl pa_nil))))) (pa_cons (pe_lst (pa_cons pe_bl (pa_cons pe_bl (pa_cons pe_bl (pa_cons pe_bl pa_nil))))) pa_nil)))))
      (pss_one (ps_if (pt_cmpR (op_neD hr.units) (pe_df D.bases hr1 rfl (pa_cons (pv 6) pa_nil)) (pe_ix ix_list (pv 8) (pe_ix ix_list (pv 7) (pv 5) (fun _ _ => rfl)) (fun _ _ => rfl)) (nomark _)) (pss_one (ps_ret pe_bl)) pss_nil))))))))
      (pss_cons (ps_for PassesOwn.never rfl (pi_list (pe_lst (pa_cons (pe_mk1 M.ms hr2 rfl C.g17 (pv 3)) (pa_cons (pe_mk1K M.ms hr2 rfl C.g17 (pv 3)) pa_nil)))) (pg_name (i := 6) scLaw.nd rfl (Or.inl rfl)) (pss_one (ps_if (PW.pt (pw_or (pt_cmpR op_ne (pe_callB (call_repr (hG _) hr1) (by rfl) T.repr (by decide +kernel) (pa_cons (pe_exAt (pv 6)) pa_nil)) (pe_callB (call_repr (hG _) hr1) (by rfl) T.repr (by decide +kernel) (pa_cons (pv 3) pa_nil)) (nomark _)) (pw_or (pt_cmpR (op_neD hr.units) (pe_df D.at' hr1 rfl (pa_cons (pe_df D.all hr2 rfl (pa_cons (pv 6) pa_nil)) pa_nil)) (pe_lst (pa_cons pe_int pa_nil)) (nomark _)) (pw_or1 (pt_not (pt_val (pe_callB call_isX (by rfl) C.isn (by decide +kernel) (pa_cons (pv 6) (pa_cons (pe_glob (v := .ref cM) rfl C.gM rfl) pa_nil))))))))) (pss_one (ps_ret pe_bl)) pss_nil)))
      (pss_one (ps_for PassesOwn.never rfl (pi_list (pe_lst (pa_cons (pe_mk2 M.mr hr2 rfl C.g18 pe_str (pv 3)) (pa_cons (pe_mk2K M.mr hr2 rfl C.g18 pe_str (pv 3)) (pa_cons (pe_mk2R M.mr hr2 rfl C.g18 pe_str (pv 3)) pa_nil))))) (pg_name (i := 6) scLaw.nd rfl (Or.inl rfl)) (pss_cons (ps_if (PW.pt (pw_or (pt_cmpR op_ne (pe_callB (call_repr (hG _) hr1) (by rfl) T.repr (by decide +kernel) (pa_cons (pe_lstB (pa_cons (pe_exAt (pv 6)) (pa_cons (pe_exAt (pv 6)) pa_nil))) pa_nil)) (pe_callB (call_repr (hG _) hr1) (by rfl) T.repr (by decide +kernel) (pa_cons (pe_lstB (pa_cons pe_str (pa_cons (pv 3) pa_nil))) pa_nil)) (nomark _)) (pw_or1 (pt_cmpR (op_neD hr.units) (pe_df D.at' hr1 rfl (pa_cons (pe_df D.all hr2 rfl (pa_cons (pv 6) pa_nil)) pa_nil)) (pe_lst (pa_cons pe_int pa_nil)) (nomark _))))) (pss_one (ps_ret pe_bl)) pss_nil)
      (pss_one (ps_if (pt_cmpR (op_neD hr.units) (pe_df D.bases hr1 rfl (pa_cons (pv 6) pa_nil)) (pe_lst (pa_cons pe_bl (pa_cons pe_bl (pa_cons pe_bl (pa_cons pe_bl pa_nil))))) (nomark _)) (pss_one (ps_ret pe_bl)) pss_nil)))))))))))
      (pss_cons (ps_set (i := 9) scLaw.nd rfl (Or.inl rfl) (pe_lst (pa_cons (pe_df D.at' hr1 rfl (pa_cons (pe_df D.all hr2 rfl (pa_cons (pe_mk0 M.mc hr2 rfl C.g19) pa_nil)) pa_nil)) (pa_cons (pe_df D.at' hr1 rfl (pa_cons (pe_df D.all hr2 rfl (pa_cons (pe_mk0 M.mn hr2 rfl C.g20) pa_nil)) pa_nil)) pa_nil))))
      (pss_cons (ps_set (i := 10) scLaw.nd rfl (Or.inl rfl) (pe_lst (pa_cons (pe_df D.bases hr1 rfl (pa_cons (pe_mk0 M.mc hr2 rfl C.g19) pa_nil)) (pa_cons (pe_df D.bases hr1 rfl (pa_cons (pe_mk0 M.mn hr2 rfl C.g20) pa_nil)) pa_nil))))
      (pss_one (ps_ret (pe_and (pe_cmpR (op_eqD hr.units) (pv 9) (pe_lst (pa_cons (pe_lst (pa_cons pe_int pa_nil)) (pa_cons (pe_lst (pa_cons pe_int pa_nil)) pa_nil))) (nomark _)) (pe_one (pe_cmpR (op_eqD hr.units) (pv 10) (pe_op op_rep (pe_lst (pa_cons (pe_lst (pa_cons pe_bl (pa_cons pe_bl (pa_cons pe_bl (pa_cons pe_bl pa_nil))))) pa_nil)) pe_int) (nomark _))))))))), ?_⟩
    refine q_forR1 (ea_cons (ev_max2 ev_c (ev_min2 (ev_len (ev_var rfl) hS) ev_c)) ea_nil) ⟨?_, ?_⟩
      (fun i σ' H' => Ex H H' ∧ ∃ x1 x2 x3 x4 x5 x6 x7 x8 x9 x10 : Option V, σ' = [some (.ref a), x1, x2, x3, x4, x5, x6, x7, x8, x9, x10]) ?_ ?_ ?_
    · have q := turns (j := ((ns.map V.int).length : Int)) (by omega) (by rw [List.length_map]; omega)
      exact q.1
    · have q := turns (j := ((ns.map V.int).length : Int)) (by omega) (by rw [List.length_map]; omega)
      exact Int.le_trans q.2 (by decide)
    · intro H1 e1
      exact ⟨e1, none, none, none, none, none, none, none, none, none, none, rfl⟩
    · rintro i σ' H1 hi ⟨e1, x1, x2, x3, x4, x5, x6, x7, x8, x9, x10, rfl⟩
      refine ⟨_, rfl, _, rfl, a, ns, i, rfl, ex_l e1 hS, hlen, ?_, fun p c0 z0 H2 np e2 h2 cn zn zl => ?_⟩
      · have q := turns (j := ((ns.map V.int).length : Int)) (by omega) (by rw [List.length_map]; omega)
        have z := Int.lt_of_lt_of_le hi q.2
        omega
      -- the list of values
      refine ⟨_, rfl, 10, 9, rfl, rfl, ⟨by decide, by decide, by decide⟩, p, c0, z0, _, rfl, h2, cn, zn, zl, by decide, by decide, fun n c' z' n0 n1 cn' zn' zl' => ?_⟩
      have e3 : Ex H1 (upd H2 p (.lst [.int c', .int z'])) := Ex.mut e2 np
      refine ⟨by decide, fun t1 nt1 => ?_⟩
      refine ⟨by show 1 ≤ sizeLine; decide, fun t2 nt2 => ?_⟩
      refine ⟨by decide, fun l nl nls => ?_⟩
      refine ⟨7, rfl, fun d nd => ?_⟩
      refine ⟨by show 8 ≤ sizeLine; decide, fun L nL => ?_⟩
      refine ⟨L, rfl, ⟨_, SqL.of upd_same⟩, ?_⟩
      have f1 := Ex.new (o := .tup [V.str "low", V.str "", V.int 1]) nt1
      have f2 := Ex.new (o := .tup [V.ref t1]) nt2
      have f3 := Ex.new (o := .lst [V.int 1]) nl
      have f4 := Ex.new (o := .dK []) nd
      have f5 := Ex.new (o := .lst [V.non, .int n, .ref t2, .ref l, .str "a b", .bl true, .int (-7), .ref d]) nL
      have eL := (((((e1.trans e3).trans f1).trans f2).trans f3).trans f4).trans f5
      have kt1 := f5 _ _ (f4 _ _ (f3 _ _ (f2 _ _ (upd_same (H := upd H2 p (.lst [.int c', .int z'])) (a := t1) (o := .tup [.str "low", .str "", .int 1])))))
      have kt2 := f5 _ _ (f4 _ _ (f3 _ _ (upd_same (H := upd (upd H2 p (.lst [.int c', .int z'])) t1 (.tup [.str "low", .str "", .int 1])) (a := t2) (o := .tup [.ref t1]))))
      have kl := f5 _ _ (f4 _ _ (upd_same (H := upd (upd (upd H2 p (.lst [.int c', .int z'])) t1 (.tup [.str "low", .str "", .int 1])) t2 (.tup [.ref t1])) (a := l) (o := .lst [.int 1])))
      have kd := f5 _ _ (upd_same (H := upd (upd (upd (upd H2 p (.lst [.int c', .int z'])) t1 (.tup [.str "low", .str "", .int 1])) t2 (.tup [.ref t1])) l (.lst [.int 1])) (a := d) (o := .dK []))
      have nn1 : n < 1000000000 := Int.lt_of_lt_of_le n1 (by decide)
      have good := gds (K := K) kt1 kt2 kl nls kd n0 nn1
      have kL := upd_same (H := upd (upd (upd (upd (upd H2 p (.lst [.int c', .int z'])) t1 (.tup [.str "low", .str "", .int 1])) t2 (.tup [.ref t1])) l (.lst [.int 1])) d (.dK [])) (a := L)
        (o := .lst [V.non, .int n, .ref t2, .ref l, .str "a b", .bl true, .int (-7), .ref d])
      clear kt1 kt2 kl kd f1 f2 f3 f4 f5 e3
      refine for_list (K := K) (a := L) (xs := [V.non, .int n, .ref t2, .ref l, .str "a b", .bl true, .int (-7), .ref d])
        (fun _ σ' H' => Ex (upd (upd (upd (upd (upd (upd H2 p (.lst [.int c', .int z'])) t1 (.tup [.str "low", .str "", .int 1])) t2 (.tup [.ref t1])) l (.lst [.int 1])) d (.dK [])) L (.lst [V.non, .int n, .ref t2, .ref l, .str "a b", .bl true, .int (-7), .ref d])) H' ∧
          ∃ x3 x4 x5 x6 x7 x8 x9 x10 : Option V, σ' = [some (.ref a), some (.int (i : Int)), some (.ref p), x3, x4, x5, x6, x7, x8, x9, x10])
        ⟨Ex.refl _, _, _, _, _, _, _, _, _, rfl⟩ (fun _ σ' H' _ q => ex_l q.1 (SqL.of kL)) ?_ ?_
      · generalize (upd (upd (upd (upd (upd (upd H2 p (.lst [.int c', .int z'])) t1 (.tup [.str "low", .str "", .int 1])) t2 (.tup [.ref t1])) l (.lst [.int 1])) d (.dK [])) L (.lst [V.non, .int n, .ref t2, .ref l, .str "a b", .bl true, .int (-7), .ref d])) = HL at good kL eL
        rintro j v σ' H4 hv ⟨e4, x3, x4, x5, x6, x7, x8, x9, x10, rfl⟩
        obtain ⟨dat, gd⟩ := good j v hv
        have gd4 := gd.ext e4
        -- both rows of exceptions
        refine exl_made (c := c) (v := v) (ea_cons (ev_var rfl) ea_nil) H4 (Ex.refl H4) _ fun pl as1 H5 npl e5 hpl l1 y1 => ?_
        refine exl_made (c := c) (v := v) (ea_cons (ev_var rfl) ea_nil) H5 (Ex.refl H5) _ fun pn as2 H6 npn e6 hpn l2 y2 => ?_
        refine ⟨by show 2 ≤ sizeLine; decide, fun L2 nL2 => ?_⟩
        refine ⟨L2, rfl, ⟨_, SqL.of upd_same⟩, ?_⟩
        have f7 := Ex.new (o := .lst [V.ref pl, V.ref pn]) nL2
        have rows : ∀ (m : Nat) (x : V), ([V.ref pl, V.ref pn] : List V)[m]? = some x → ∃ pm as, x = .ref pm ∧ upd H6 L2 (.lst [V.ref pl, V.ref pn]) pm = some (.lst (as.map V.ref)) ∧ as.length = 17 ∧ Exs c (upd H6 L2 (.lst [V.ref pl, V.ref pn])) v 0 as := by
          intro m x hx
          rcases m with _ | _ | m
          · cases hx
            exact ⟨pl, as1, rfl, f7 _ _ (e6 _ _ hpl), l1, (y1.ext e6).ext f7⟩
          · cases hx
            exact ⟨pn, as2, rfl, f7 _ _ hpn, l2, y2.ext f7⟩
          · simp at hx
        have kL2 := upd_same (H := H6) (a := L2) (o := .lst [V.ref pl, V.ref pn])
        have e7 := (e5.trans e6).trans f7
        clear f7
        generalize (upd H6 L2 (.lst [V.ref pl, V.ref pn])) = H7 at rows kL2 e7 ⊢
        refine for_list (K := K) (a := L2) (xs := [V.ref pl, V.ref pn]) (fun _ σ' H' => Ex H7 H' ∧ ∃ x4 x5 x6 x7 x8 x9 x10 : Option V, σ' = [some (.ref a), some (.int (i : Int)), some (.ref p), some v, x4, x5, x6, x7, x8, x9, x10])
          ⟨Ex.refl _, _, _, _, _, _, _, _, rfl⟩ (fun _ σ' H' _ q => ex_l q.1 (SqL.of kL2)) ?_ ?_
        · rintro m x σ' H8 hx ⟨e8, w4, w5, w6, w7, w8, w9, w10, rfl⟩
          obtain ⟨pm, as, rfl, hpm, las, ys⟩ := rows m x hx
          refine ⟨_, rfl, pm, _, rfl, SqL.of (e8 _ _ hpm), ?_⟩
          refine for_enum (K := K) (a := pm) (xs := as.map V.ref) (fun _ σ' H' => Ex H8 H' ∧ ∃ x5 x6 x7 x8 x9 x10 : Option V, σ' = [some (.ref a), some (.int (i : Int)), some (.ref p), some v, some (.ref pm), x5, x6, x7, x8, x9, x10])
            ⟨Ex.refl _, _, _, _, _, _, _, rfl⟩ (fun _ σ' H' _ q => ex_l (e8.trans q.1) (SqL.of hpm)) ?_ ?_
          · rintro r y σ' H9 Tt hy ⟨e9, u5, u6, u7, u8, u9, u10, rfl⟩ nT
            obtain ⟨ea, hea, rfl⟩ : ∃ ea, as[r]? = some ea ∧ y = .ref ea := by
              rw [List.getElem?_map] at hy
              cases q : as[r]? with
              | none =>
                rw [q] at hy
                cases hy
              | some u =>
                rw [q] at hy
                exact ⟨u, rfl, (Option.some.inj hy).symm⟩
            have h17 : r < 17 := by
              have q := (List.getElem?_eq_some_iff.mp hea).1
              omega
            refine ⟨Tt, _, rfl, SqT.of upd_same, rfl, _, _, rfl, _, _, rfl, rfl, ?_⟩
            have f10 := Ex.new (o := .tup [V.int (r : Nat), V.ref ea]) nT
            have kv := (ys r ea hea).ext ((e8.trans e9).trans f10)
            rw [Nat.zero_add] at kv
            have gd10 := gd4.ext (((e7.trans e8).trans e9).trans f10)
            have e10 := e9.trans f10
            clear f10
            generalize (upd H9 Tt (.tup [V.int (r : Nat), V.ref ea])) = H10 at kv gd10 e10 ⊢
            have kat := kv.at
            obtain ⟨dx, hx1, hx2⟩ := kv
            refine q_when (b := false) (et_is (et_or (et_neText (ev_repr (ev_exAt (ev_var rfl) (C.R r (by omega)) (T.noValue r (by omega)) hx1 hx2 rfl) gd10) (ev_repr (ev_var rfl) gd10))
              fun _ => et_neInts (el_atall (ev_var rfl) (by omega) kat) (el_lst (ea_cons (ev_var rfl) ea_nil) (by simp)) (shapedInt _)) rfl) (fun hb => by cases hb) fun _ H11 e11 => ?_
            refine q_asgL (el_catN (el_rep (el_lst (ea_cons ev_c ea_nil) (by simp)) (fun _ _ => ev_c) ⟨by decide, by decide⟩ (by decide)) (el_lst (ea_cons ev_c (ea_cons ev_c (ea_cons ev_c (ea_cons ev_c ea_nil)))) (by simp)) (by decide)) fun pb H12 nb e12 hb => ?_
            refine ⟨by decide, fun q0 nq0 => ⟨by decide, fun q1 nq1 => ⟨by decide, fun q2 nq2 => ⟨by show 3 ≤ sizeLine; decide, fun pd npd => ?_⟩⟩⟩⟩
            have g0 := Ex.new (o := .lst [V.bl true, V.bl true, V.bl false, V.bl false]) nq0
            have g1 := Ex.new (o := .lst [V.bl false, V.bl false, V.bl true, V.bl false]) nq1
            have g2 := Ex.new (o := .lst [V.bl false, V.bl false, V.bl false, V.bl true]) nq2
            have g3 := Ex.new (o := .lst [V.ref q0, V.ref q1, V.ref q2]) npd
            have kq0 := g3 _ _ (g2 _ _ (g1 _ _ (upd_same (H := H12) (a := q0) (o := .lst [V.bl true, V.bl true, V.bl false, V.bl false]))))
            have kq1 := g3 _ _ (g2 _ _ (upd_same (H := upd H12 q0 (.lst [V.bl true, V.bl true, V.bl false, V.bl false])) (a := q1) (o := .lst [V.bl false, V.bl false, V.bl true, V.bl false])))
            have kq2 := g3 _ _ (upd_same (H := upd (upd H12 q0 (.lst [V.bl true, V.bl true, V.bl false, V.bl false])) q1 (.lst [V.bl false, V.bl false, V.bl true, V.bl false])) (a := q2) (o := .lst [V.bl false, V.bl false, V.bl false, V.bl true]))
            have kpd := upd_same (H := upd (upd (upd H12 q0 (.lst [V.bl true, V.bl true, V.bl false, V.bl false])) q1 (.lst [V.bl false, V.bl false, V.bl true, V.bl false])) q2 (.lst [V.bl false, V.bl false, V.bl false, V.bl true])) (a := pd) (o := .lst [V.ref q0, V.ref q1, V.ref q2])
            have e13 := ((g0.trans g1).trans g2).trans g3
            clear g0 g1 g2 g3
            generalize (upd (upd (upd (upd H12 q0 (.lst [V.bl true, V.bl true, V.bl false, V.bl false])) q1 (.lst [V.bl false, V.bl false, V.bl true, V.bl false])) q2 (.lst [V.bl false, V.bl false, V.bl false, V.bl true])) pd (.lst [V.ref q0, V.ref q1, V.ref q2])) = H13 at kq0 kq1 kq2 kpd e13 ⊢
            have pick : ∃ q, atI [V.ref q0, V.ref q1, V.ref q2] (Int.ofNat (bIx r)) = some (.ref q) ∧ H13 q = some (.lst ((basesOf r).map V.bl)) := by
              rw [← due_ix r h17]
              have lt := bIx_lt r h17
              generalize bIx r = m at lt ⊢
              rcases m with _ | _ | _ | m
              · exact ⟨q0, rfl, kq0⟩
              · exact ⟨q1, rfl, kq1⟩
              · exact ⟨q2, rfl, kq2⟩
              · omega
            obtain ⟨qq, hq1, hq2⟩ := pick
            have kat13 := kat.ext ((e11.trans e12).trans e13)
            refine s_when (b := false) (et_test (ev_opL1 (el_bases (ev_var rfl) (by omega) kat13)
              (fun H' e' => ev_op (ev_var rfl) (ev_op (ev_var rfl) (ev_var rfl) (rv_ixL (SqL.of (e' _ _ (e13 _ _ hb))) (base_ix r h17))) (rv_ixL (SqL.of (e' _ _ kpd)) hq1))
              (fun pB H' hB e' => rv_neSame (d := .list ((basesOf r).map PyData.bool)) (fun H'' e'' => dp_bools (e'' _ _ hB)) (fun H'' e'' => dp_bools (e'' _ _ (e' _ _ hq2))) (shapedBases r (by omega))))) (fun hb => by cases hb) fun _ H14 e14 => ?_
            exact ⟨(((e10.trans e11).trans e12).trans e13).trans e14, _, _, _, _, _, _, rfl⟩
          · rintro σ' H9 ⟨e9, u5, u6, u7, u8, u9, u10, rfl⟩
            exact ⟨e8.trans e9, _, _, _, _, _, _, _, rfl⟩
        · rintro σ' H8 ⟨e8, w4, w5, w6, w7, w8, w9, w10, rfl⟩
          have gd8 := gd4.ext (e7.trans e8)
          have eH8 := e4.trans (e7.trans e8)
          clear rows kL2 gd4 y1 y2 hpl hpn npl npn
          -- InvalidScript, by place and by name
          refine q_forX (C := c 17) (fs := [("at", v)]) (exr_cons (ex_one (ev_var rfl)) (exr_cons (ex_oneK (ev_var rfl)) exr_nil)) (by decide)
            (fun σ' => ∃ x6 : Option V, σ' = [some (.ref a), some (.int (i : Int)), some (.ref p), some v, w4, w5, x6, w7, w8, w9, w10]) ⟨_, rfl⟩ ?_ ?_
          · rintro ea dx σ' H12 e12 k1 k2 ⟨x6', rfl⟩ N hN
            have kat : ExAt c H12 17 ea := ⟨some dx, k1, fun dy z => by cases z; exact ⟨_, k2⟩⟩
            have gd12 := gd8.ext e12
            have kM : PySem.W.kitOne K (.ref (c 17)) (.ref cM) = some true := by simpa using C.kitM 17 (by decide)
            refine s_when (b := false) (et_is (et_or (et_neText (ev_repr (ev_exAt (ev_var rfl) (C.R 17 (by decide)) T.noAt k1 k2 rfl) gd12) (ev_repr (ev_var rfl) gd12))
              fun _ => et_or (et_neInts (ns := [17]) (el_atall (ev_var rfl) (by decide) kat) (el_lst (ea_cons ev_c ea_nil) (by simp)) (shapedInt _))
              fun _ => et_not (et_B (ev_isC C (ev_var rfl) (by decide) kat (.own _) kM))) rfl) (fun hb => by cases hb) fun _ H13 e13 => ?_
            exact hN _ _ e13 ⟨_, rfl⟩
          · rintro σ' H12 e12 ⟨x6', rfl⟩
            have gd12 := gd8.ext e12
            have eH12 := eH8.trans e12
            -- Refused, by place and by names in both orders
            refine s_forX (C := c 18) (fs := [("value", v), ("word", .str "name")]) (exr_cons (ex_two ev_c (ev_var rfl)) (exr_cons (ex_twoK ev_c (ev_var rfl)) (exr_cons (ex_twoR ev_c (ev_var rfl)) exr_nil))) (by decide)
              (fun σ' => ∃ x6 : Option V, σ' = [some (.ref a), some (.int (i : Int)), some (.ref p), some v, w4, w5, x6, w7, w8, w9, w10]) ⟨_, rfl⟩ ?_ ?_
            · rintro ea dx σ' H17 e17 k1 k2 ⟨x6'', rfl⟩ N hN
              have kat : ExAt c H17 18 ea := ⟨some dx, k1, fun dy z => by cases z; exact ⟨_, k2⟩⟩
              have gd17 := gd12.ext e17
              obtain ⟨g1, g2, g3⟩ := gdPair gd17
              have ds : Dds K H17 [.str "name", v] [.str "name", dat] := .cons (.str _) (.cons gd17.dd .nil)
              have lw : List.lookup ("word" : Str) [(("value" : Str), v), (("word" : Str), V.str "name")] = some (.str "name") := by
                have q : (("word" : Str) == ("value" : Str)) = false := by decide +kernel
                simp [List.lookup, q]
              have lv : List.lookup ("value" : Str) [(("value" : Str), v), (("word" : Str), V.str "name")] = some v := by simp [List.lookup]
              refine q_when (b := false) (et_is (et_or (et_neText (ev_reprL (ea_cons (ev_exAt (ev_var rfl) (C.R 18 (by decide)) T.noWord k1 k2 lw) (ea_cons (ev_exAt (ev_var rfl) (C.R 18 (by decide)) (T.noValue 18 (by decide)) k1 k2 lv) ea_nil)) ds (by simp) g1 g2 g3)
                  (ev_reprL (ea_cons ev_c (ea_cons (ev_var rfl) ea_nil)) ds (by simp) g1 g2 g3))
                fun _ => et_neInts (ns := [18]) (el_atall (ev_var rfl) (by decide) kat) (el_lst (ea_cons ev_c ea_nil) (by simp)) (shapedInt _)) rfl) (fun hb => by cases hb) fun _ H18 e18 => ?_
              refine s_when (b := false) (et_neBools (bs := basesOf 18) (el_bases (ev_var rfl) (by decide) (kat.ext e18)) (el_lst (ea_cons ev_c (ea_cons ev_c (ea_cons ev_c (ea_cons ev_c ea_nil)))) (by show 4 ≤ 100000; decide)) (shapedBases 18 (by decide))) (fun hb => by cases hb) fun _ H19 e19 => ?_
              exact hN _ _ (e18.trans e19) ⟨_, rfl⟩
            · rintro σ' H17 e17 ⟨x6'', rfl⟩
              exact ⟨eH12.trans e17, _, _, _, _, _, _, _, _, rfl⟩
      · rintro σ' H4 ⟨e4, y3, y4, y5, y6, y7, y8, y9, y10, rfl⟩
        exact ⟨eL.trans e4, _, _, _, _, _, _, _, _, _, _, rfl⟩
    · rintro σ' H1 ⟨e1, x1, x2, x3, x4, x5, x6, x7, x8, x9, x10, rfl⟩
      refine el_atmade (c := c) (i := 19) ex_nil (by decide) H1 (Ex.refl H1) _ fun q1 H2 n1 e2 h1 => ?_
      refine el_atmade (c := c) (i := 20) ex_nil (by decide) H2 (Ex.refl H2) _ fun q2 H3 n2 e3 h2 => ?_
      refine ⟨by show 2 ≤ sizeLine; decide, fun pS nS => ?_⟩
      have f4 := Ex.new (o := .lst [V.ref q1, V.ref q2]) nS
      have k1 := f4 _ _ (e3 _ _ h1)
      have k2 := f4 _ _ h2
      have kS := upd_same (H := H3) (a := pS) (o := .lst [V.ref q1, V.ref q2])
      clear f4
      generalize (upd H3 pS (.lst [V.ref q1, V.ref q2])) = H4 at k1 k2 kS ⊢
      refine el_basesmade (c := c) (i := 19) ex_nil (by decide) H4 (Ex.refl H4) _ fun q3 H5 n3 e5 h3 => ?_
      refine el_basesmade (c := c) (i := 20) ex_nil (by decide) H5 (Ex.refl H5) _ fun q4 H6 n4 e6 h4 => ?_
      refine ⟨by show 2 ≤ sizeLine; decide, fun pB nB => ?_⟩
      have f7 := Ex.new (o := .lst [V.ref q3, V.ref q4]) nB
      have k1 := f7 _ _ (e6 _ _ (e5 _ _ k1))
      have k2 := f7 _ _ (e6 _ _ (e5 _ _ k2))
      have kS := f7 _ _ (e6 _ _ (e5 _ _ kS))
      have k3 := f7 _ _ (e6 _ _ h3)
      have k4 := f7 _ _ h4
      have kB := upd_same (H := H6) (a := pB) (o := .lst [V.ref q3, V.ref q4])
      clear f7
      generalize (upd H6 pB (.lst [V.ref q3, V.ref q4])) = H7 at k1 k2 k3 k4 kS kB ⊢
      dsimp only [gName, tRet]
      refine ev_andV (a := true) (b := true) ?_ (fun _ => ?_) H7 (Ex.refl H7) Q (fun H8 _ => kQ H8)
      · intro H8 e8 Q' q'
        refine ⟨_, rfl, by show 1 ≤ sizeLine; decide, fun r1 m1 => ⟨by show 1 ≤ sizeLine; decide, fun r2 m2 => ⟨by show 2 ≤ sizeLine; decide, fun r3 m3 => ?_⟩⟩⟩
        have j1 := Ex.new (o := .lst [V.int 19]) m1
        have j2 := Ex.new (o := .lst [V.int 20]) m2
        have j3 := Ex.new (o := .lst [V.ref r1, V.ref r2]) m3
        have z1 := j3 _ _ (j2 _ _ (upd_same (H := H8) (a := r1) (o := .lst [V.int 19])))
        have z2 := j3 _ _ (upd_same (H := upd H8 r1 (.lst [V.int 19])) (a := r2) (o := .lst [V.int 20]))
        have z3 := upd_same (H := upd (upd H8 r1 (.lst [V.int 19])) r2 (.lst [V.int 20])) (a := r3) (o := .lst [V.ref r1, V.ref r2])
        have j := (j1.trans j2).trans j3
        clear j1 j2 j3
        generalize (upd (upd (upd H8 r1 (.lst [V.int 19])) r2 (.lst [V.int 20])) r3 (.lst [V.ref r1, V.ref r2])) = H9 at z1 z2 z3 j ⊢
        have e9 := e8.trans j
        refine rv_eqSame (H := H9) (d := .list [.list [.int 19], .list [.int 20]]) (fun H' e' => ?_) (fun H' e' => ?_) (by decide) H9 (Ex.refl H9) _ fun H10 e10 => q' H10 (j.trans e10)
        · exact .lst (SqL.of (e' _ _ (e9 _ _ kS))) (.cons (dp_ints (ns := [19]) (e' _ _ (e9 _ _ k1))) (.cons (dp_ints (ns := [20]) (e' _ _ (e9 _ _ k2))) .nil))
        · exact .lst (SqL.of (e' _ _ z3)) (.cons (dp_ints (ns := [19]) (e' _ _ z1)) (.cons (dp_ints (ns := [20]) (e' _ _ z2)) .nil))
      · intro H8 e8 Q' q'
        refine ⟨_, rfl, by show 4 ≤ sizeLine; decide, fun r1 m1 => ⟨by show 1 ≤ sizeLine; decide, fun r2 m2 => ?_⟩⟩
        have j1 := Ex.new (o := .lst [V.bl false, V.bl false, V.bl false, V.bl true]) m1
        have j2 := Ex.new (o := .lst [V.ref r1]) m2
        refine ⟨r2, 2, [V.ref r1], rfl, rfl, upd_same, by decide, by decide, by show 2 ≤ sizeLine; decide, fun r3 m3 => ?_⟩
        have j3 := Ex.new (o := .lst [V.ref r1, V.ref r1]) m3
        have z1 := j3 _ _ (j2 _ _ (upd_same (H := H8) (a := r1) (o := .lst [V.bl false, V.bl false, V.bl false, V.bl true])))
        have z3 := upd_same (H := upd (upd H8 r1 (.lst [V.bl false, V.bl false, V.bl false, V.bl true])) r2 (.lst [V.ref r1])) (a := r3) (o := .lst [V.ref r1, V.ref r1])
        have j := (j1.trans j2).trans j3
        have e9 := e8.trans j
        refine rv_eqSame (d := .list [.list ((basesOf 19).map PyData.bool), .list ((basesOf 20).map PyData.bool)]) (fun H' e' => ?_) (fun H' e' => ?_) (by decide) _ (Ex.refl _) _ fun H10 e10 => q' H10 (j.trans e10)
        · exact .lst (SqL.of (e' _ _ (e9 _ _ kB))) (.cons (dp_bools (e' _ _ (e9 _ _ k3))) (.cons (dp_bools (e' _ _ (e9 _ _ k4))) .nil))
        · exact .lst (SqL.of (e' _ _ z3)) (.cons (dp_bools (bs := [false, false, false, true]) (e' _ _ z1)) (.cons (dp_bools (bs := [false, false, false, true]) (e' _ _ z1)) .nil))
end
end K02
set_option maxHeartbeats 16000000
namespace K02
open PySem PySem.Spec PyProof.Rows L2 Evl My
def initOf (i : Nat) : Stmt := inClass (top i) 0
/-- what is read off each class at once -/
def okClass (K : PySem.W.Frag) (C : Addr) : Bool :=
  (PySem.W.findIn K (.ref C) "__setattr__" == some (some (.builtin "object.__setattr__"))) && PySem.W.keepIn K (.ref C) &&
  (PySem.W.findIn K (.ref C) "__getattribute__" == some (some (.builtin "BaseException.__getattribute__"))) && (PySem.W.findIn K (.ref C) "__getattr__" == some none) &&
  (PySem.W.subIn K (.ref C) (.type "BaseException") == some true) && PySem.W.hasDictIn K C && (PySem.W.findIn K (.ref C) "__class__" == some (some (.builtin "object.__class__"))) &&
  (PySem.W.mroIn K C (.type "object") == some true)
def okAll (K : PySem.W.Frag) (cs : List Addr) (cM : Addr) : Bool :=
  (PySem.W.specialIn K (.builtin "object.__class__") "__get__" == some (some (.builtin "getset_descriptor.__get__"))) && (PySem.W.takesIn K (.builtin "object.__class__") == some true) &&
  (List.range 21).all fun i => okClass K (cs.getD i 0) && ((List.range 21).all fun j => PySem.W.kitOne K (.ref (cs.getD i 0)) (.ref (cs.getD j 0)) == some (decide (i = j))) &&
    (PySem.W.kitOne K (.ref (cs.getD i 0)) (.ref cM) == some (decide (i < 13 ∨ i = 17))) && (PySem.W.kitOne K (.ref (cs.getD i 0)) (.type "ValueError") == some (decide (i < 13 ∨ i = 17))) &&
    (PySem.W.kitOne K (.ref (cs.getD i 0)) (.type "KeyError") == some (decide (i = 13 ∨ i = 14))) && (PySem.W.kitOne K (.ref (cs.getD i 0)) (.type "RuntimeError") == some (decide (i = 15 ∨ i = 16 ∨ 18 ≤ i))) &&
    (PySem.W.findIn K (.ref (cs.getD i 0)) "value" == some none) && (PySem.W.findIn K (.ref (cs.getD i 0)) "at" == some none) && (PySem.W.findIn K (.ref (cs.getD i 0)) "word" == some none)
structure OkAt (K : PySem.W.Frag) (cs : List Addr) (cM : Addr) (i : Nat) : Prop where
  sa : PySem.W.findIn K (.ref (cs.getD i 0)) "__setattr__" = some (some (.builtin "object.__setattr__"))
  kC : PySem.W.keepIn K (.ref (cs.getD i 0)) = true
  R : ExR K (cs.getD i 0)
  kit : ∀ j, j < 21 → PySem.W.kitOne K (.ref (cs.getD i 0)) (.ref (cs.getD j 0)) = some (decide (i = j))
  kM : PySem.W.kitOne K (.ref (cs.getD i 0)) (.ref cM) = some (decide (i < 13 ∨ i = 17))
  kV : PySem.W.kitOne K (.ref (cs.getD i 0)) (.type "ValueError") = some (decide (i < 13 ∨ i = 17))
  kK : PySem.W.kitOne K (.ref (cs.getD i 0)) (.type "KeyError") = some (decide (i = 13 ∨ i = 14))
  kR : PySem.W.kitOne K (.ref (cs.getD i 0)) (.type "RuntimeError") = some (decide (i = 15 ∨ i = 16 ∨ 18 ≤ i))
  nv : PySem.W.findIn K (.ref (cs.getD i 0)) "value" = some none
  na : PySem.W.findIn K (.ref (cs.getD i 0)) "at" = some none
  nw : PySem.W.findIn K (.ref (cs.getD i 0)) "word" = some none
theorem okAll_at {K : PySem.W.Frag} {cs : List Addr} {cM : Addr} (h : okAll K cs cM = true) : ∀ i, i < 21 → OkAt K cs cM i := by
  intro i hi
  unfold okAll at h
  simp only [Bool.and_eq_true, List.all_eq_true, List.mem_range, beq_iff_eq] at h
  obtain ⟨⟨hn, ht⟩, h⟩ := h
  obtain ⟨⟨⟨⟨⟨⟨⟨⟨h0, h1⟩, h2⟩, h3⟩, h4⟩, h5⟩, h6⟩, h7⟩, h8⟩ := h i hi
  unfold okClass at h0
  simp only [Bool.and_eq_true, beq_iff_eq] at h0
  obtain ⟨⟨⟨⟨⟨⟨⟨a1, a2⟩, a3⟩, a4⟩, a5⟩, a6⟩, a7⟩, a8⟩ := h0
  exact ⟨a1, a2, ⟨a3, a4, a5, a6, a7, hn, ht, a8⟩, h1, h2, h3, h4, h5, h6, h7, h8⟩

section
variable {P : Program} {w : World} {K : PySem.W.Frag} {mg : Str → Option Value} {base : Heap} {f g qual : Str} {C fI : Addr} {fd : FuncData} {st : Stmt}
theorem mkrOf (S : FnScope ["self", f] ["self", f] (defScope st)) (hb : ∃ p1 p2 p3 p4, defBody st = [.Assign [.Attribute (.Name "self" p1) f p2] (.Name f p3) p4])
    (hbind : ∀ (kV doc pm : Value) (an : Option Addr) (cdv ct : Value) (us : List Value), us.length = (["self", f] : List Str).length → bindArgs (PySem.W.fnOf "__init__" qual (defArgs st) (defBody st) (defScope st) .none kV doc pm an cdv ct) ⟨us, []⟩ = pure ((["self", f] : List Str).zip us))
    (hkw : ∀ (kV doc pm : Value) (an : Option Addr) (cdv ct u x : Value), bindArgs (PySem.W.fnOf "__init__" qual (defArgs st) (defBody st) (defScope st) .none kV doc pm an cdv ct) ⟨[u], [(f, x)]⟩ = pure ([("self", u), (f, x)] : List (Str × Value)))
    (hf : (f == ("__debug__" : Str)) = false) (hf2 : (f == ("__classdict__" : Str)) = false) (F : Fun K "__init__" qual st fI fd) (T : ExG K C)
    (iC : PySem.W.findIn K (.ref C) "__init__" = some (some (.ref fI))) (tI : PySem.W.typeIn K (.ref fI) = some (.type "function")) (no : PySem.W.findIn K (.ref C) f = some none) : Mkr P w K mg base C f := by
  refine ⟨fI, fd, T, iC, tI, ok_one F S hb hf hf2 T no, kbPos (F.binds hbind), ⟨fun s us ws inK l1 l2 => ?_, fun r z => Vals.append r z⟩⟩
  obtain ⟨oc, od, kV, doc, pm, an, cdv, ct, osl, rfl, _, _⟩ := F.ex
  match us, ws, l1, l2 with
  | [u], [x], _, _ => exact .of_eq (hkw kV doc pm an cdv ct u x)
theorem mkr2Of (S : FnScope ["self", f, g] ["self", f, g] (defScope st))
    (hb : ∃ p1 p2 p3 p4 q1 q2 q3 q4, defBody st = [.Assign [.Attribute (.Name "self" p1) f p2] (.Name f p3) p4, .Assign [.Attribute (.Name "self" q1) g q2] (.Name g q3) q4])
    (hbind : ∀ (kV doc pm : Value) (an : Option Addr) (cdv ct : Value) (us : List Value), us.length = (["self", f, g] : List Str).length → bindArgs (PySem.W.fnOf "__init__" qual (defArgs st) (defBody st) (defScope st) .none kV doc pm an cdv ct) ⟨us, []⟩ = pure ((["self", f, g] : List Str).zip us))
    (hkw : ∀ (kV doc pm : Value) (an : Option Addr) (cdv ct u x y : Value), bindArgs (PySem.W.fnOf "__init__" qual (defArgs st) (defBody st) (defScope st) .none kV doc pm an cdv ct) ⟨[u], [(f, x), (g, y)]⟩ = pure ([("self", u), (f, x), (g, y)] : List (Str × Value)))
    (hkr : ∀ (kV doc pm : Value) (an : Option Addr) (cdv ct u x y : Value), bindArgs (PySem.W.fnOf "__init__" qual (defArgs st) (defBody st) (defScope st) .none kV doc pm an cdv ct) ⟨[u], [(g, y), (f, x)]⟩ = pure ([("self", u), (f, x), (g, y)] : List (Str × Value)))
    (hf : (f == ("__debug__" : Str)) = false) (hf2 : (f == ("__classdict__" : Str)) = false) (hg : (g == ("__debug__" : Str)) = false) (hg2 : (g == ("__classdict__" : Str)) = false) (F : Fun K "__init__" qual st fI fd) (T : ExG K C)
    (iC : PySem.W.findIn K (.ref C) "__init__" = some (some (.ref fI))) (tI : PySem.W.typeIn K (.ref fI) = some (.type "function")) (no : PySem.W.findIn K (.ref C) f = some none) (no2 : PySem.W.findIn K (.ref C) g = some none) : Mkr2 P w K mg base C f g := by
  refine ⟨fI, fd, T, iC, tI, ok_two F S hb hf hf2 hg hg2 T no no2, kbPos (F.binds hbind), ⟨fun s us ws inK l1 l2 => ?_, fun r z => Vals.append r z⟩, ⟨fun s us ws inK l1 l2 => ?_, fun r z => Vals.append r (valsRev z)⟩⟩
  · obtain ⟨oc, od, kV, doc, pm, an, cdv, ct, osl, rfl, _, _⟩ := F.ex
    match us, ws, l1, l2 with
    | [u], [x, y], _, _ => exact .of_eq (hkw kV doc pm an cdv ct u x y)
  · obtain ⟨oc, od, kV, doc, pm, an, cdv, ct, osl, rfl, _, _⟩ := F.ex
    match us, ws, l1, l2 with
    | [u], [y, x], _, _ => exact .of_eq (hkr kV doc pm an cdv ct u x y)
where
  valsRev : ∀ {zs : List V} {ws : List Value}, Vals zs ws → Vals zs.reverse ws.reverse
  | _, _, .nil => .nil
  | _, _, .cons r t => by
    rw [List.reverse_cons, List.reverse_cons]
    exact Vals.append (valsRev t) (.cons r .nil)
theorem mkr0Of (FO : FnOk P w K mg base CX0 1 fI fd ["self"] (spNil C))
    (hbind : ∀ (kV doc pm : Value) (an : Option Addr) (cdv ct : Value) (us : List Value), us.length = (["self"] : List Str).length → bindArgs (PySem.W.fnOf "__init__" qual (defArgs st) (defBody st) (defScope st) .none kV doc pm an cdv ct) ⟨us, []⟩ = pure ((["self"] : List Str).zip us))
    (F : Fun K "__init__" qual st fI fd) (T : ExG K C) (iC : PySem.W.findIn K (.ref C) "__init__" = some (some (.ref fI))) (tI : PySem.W.typeIn K (.ref fI) = some (.type "function")) : Mkr0 P w K mg base C :=
  ⟨fI, fd, T, iC, tI, FO, kbPos (F.binds hbind)⟩

theorem scClosed : FnScope ["self"] ["self"] (defScope (initOf 21)) := ⟨rfl, rfl, rfl, by decide +kernel, rfl, by decide +kernel, by decide +kernel⟩
theorem ok_Closed (F : Fun K "__init__" "Closed.__init__" (initOf 21) fI fd) (T : ExRt K C) (hm : mg "RuntimeError" = none)
    (vV : PySem.W.findCls K (.type "RuntimeError") (.type "type") "__init__" = some (.val (.builtin "RuntimeError.__init__"))) : FnOk P w K mg base CX0 1 fI fd ["self"] (spNil C) := by
  refine F.ok scClosed (fun vs H Q E h => ?_) (fun cdv A outer s H vs Q E hr h => ?_)
  · obtain ⟨a, rfl, _⟩ := h
    rfl
  · obtain ⟨a, rfl, ha, k⟩ := h
    refine ⟨_, pss_one (ps_expr (pe_rtinit rfl hm vV (pa_cons (pv 0) (pa_cons pe_str pa_nil)))), ?_⟩
    exact ⟨.ref a, rfl, a, C, _, rfl, by show 1 ≤ 1000; decide, T, ha, k⟩
theorem scNoServer : FnScope ["self"] ["self"] (defScope (initOf 22)) := ⟨rfl, rfl, rfl, by decide +kernel, rfl, by decide +kernel, by decide +kernel⟩
theorem ok_NoServer (F : Fun K "__init__" "NoServer.__init__" (initOf 22) fI fd) (T : ExRt K C) (hm : mg "RuntimeError" = none)
    (vV : PySem.W.findCls K (.type "RuntimeError") (.type "type") "__init__" = some (.val (.builtin "RuntimeError.__init__"))) : FnOk P w K mg base CX0 1 fI fd ["self"] (spNil C) := by
  refine F.ok scNoServer (fun vs H Q E h => ?_) (fun cdv A outer s H vs Q E hr h => ?_)
  · obtain ⟨a, rfl, _⟩ := h
    rfl
  · obtain ⟨a, rfl, ha, k⟩ := h
    refine ⟨_, pss_one (ps_expr (pe_rtinit rfl hm vV (pa_cons (pv 0) (pa_cons pe_str pa_nil)))), ?_⟩
    exact ⟨.ref a, rfl, a, C, _, rfl, by show 1 ≤ 1000; decide, T, ha, k⟩
end
theorem makesV (cM : Addr) : Makes (.ref cM :: [.type "ValueError", .type "Exception", .type "BaseException", .type "object"]) "ValueError" := ⟨rfl, rfl, rfl⟩
theorem makesK : Makes [.type "KeyError", .type "LookupError", .type "Exception", .type "BaseException", .type "object"] "LookupError" := ⟨by decide +kernel, by decide +kernel, by decide +kernel⟩
theorem makesR : Makes [.type "RuntimeError", .type "Exception", .type "BaseException", .type "object"] "RuntimeError" := ⟨by decide +kernel, by decide +kernel, by decide +kernel⟩

end K02
set_option maxHeartbeats 16000000
namespace K02
open PySem PySem.Spec PyProof.Rows L2 Evl My
/-- a class of the text, its __init__ -/
structure HasCls (K : PySem.W.Frag) (nm : Str) (bm : List Value) (newId : String) (qual : Str) (st : Stmt) (C fI : Addr) : Prop where
  g : PySem.W.nsIn K mainGlobals nm = some (some (.ref C))
  l : ∃ nm q N bs sn sub ab col dd k0 k1 k2 k3 k5, K.lookup C = some (excClassObj nm q C N bs bm true sn sub ab col dd k0 k1 k2 k3 k5 newId)
  i : PySem.W.findIn K (.ref C) "__init__" = some (some (.ref fI))
  t : PySem.W.typeIn K (.ref fI) = some (.type "function")
  F : ∃ fd, Fun K "__init__" qual st fI fd
theorem hasCls {K : PySem.W.Frag} {x : Str} {bm : List Value} {newId : String} {qual : Str} {st : Stmt} {C fI : Addr} {nm q N bs sn sub ab col dd k0 k1 k2 k3 k5} {oc : Value} {od an : Option Addr} {osl : Array (Option Value)} {kV doc pm cdv ct : Value}
    (g : PySem.W.nsIn K mainGlobals x = some (some (.ref C))) (l : K.lookup C = some (excClassObj nm q C N bs bm true sn sub ab col dd k0 k1 k2 k3 k5 newId))
    (i : PySem.W.findIn K (.ref C) "__init__" = some (some (.ref fI))) (t : PySem.W.typeIn K (.ref fI) = some (.type "function"))
    (lf : K.lookup fI = some ⟨oc, od, .func (PySem.W.fnOf "__init__" qual (defArgs st) (defBody st) (defScope st) .none kV doc pm an cdv ct), osl⟩) (cf : PySem.W.codeIn K cdv qual = true) (kf : PySem.W.keepIn K (.ref fI) = true) : HasCls K x bm newId qual st C fI :=
  ⟨g, ⟨_, _, _, _, _, _, _, _, _, _, _, _, _, _, l⟩, i, t, _, fun_mk lf cf kf⟩
structure HasDef (K : PySem.W.Frag) (x : Str) (st : Stmt) (f : Addr) : Prop where
  g : PySem.W.nsIn K mainGlobals x = some (some (.ref f))
  k : PySem.W.keepIn K (.ref f) = true
  F : ∃ fd, Fun K x x st f fd
theorem hasDef {K : PySem.W.Frag} {x : Str} {st : Stmt} {f : Addr} {oc : Value} {od an : Option Addr} {osl : Array (Option Value)} {kV doc pm cdv ct : Value}
    (g : PySem.W.nsIn K mainGlobals x = some (some (.ref f)))
    (lf : K.lookup f = some ⟨oc, od, .func (PySem.W.fnOf x x (defArgs st) (defBody st) (defScope st) .none kV doc pm an cdv ct), osl⟩) (cf : PySem.W.codeIn K cdv x = true) (kf : PySem.W.keepIn K (.ref f) = true) : HasDef K x st f :=
  ⟨g, kf, _, fun_mk lf cf kf⟩
section
variable {P : Program} {w : World} {K : PySem.W.Frag} {mg : Str → Option Value} {base : Heap} {C fI : Addr} {fd : FuncData} {cs : List Addr} {cM : Addr} {i : Nat} {nm qual : Str} {bm : List Value} {newId : String} {st : Stmt}
theorem HasCls.exG {B : String} {initId : String} {bmB : List Value} (h : HasCls K nm bm newId qual st C fI) (A : OkAt K cs cM i) (e : cs.getD i 0 = C) (FB : ExcBaseFacts B newId initId bmB) (mk : Makes bm B) (mro : MroOk bm) : ExG K C := by
  obtain ⟨nm, q, N, bs, sn, sub, ab, col, dd, k0, k1, k2, k3, k5, l⟩ := h.l
  subst e
  exact ⟨⟨nm, q, N, bs, bm, sn, sub, ab, col, dd, k0, k1, k2, k3, k5, B, newId, initId, bmB, l, FB, mk, mro⟩, A.sa, A.kC⟩
theorem HasCls.exRt (h : HasCls K nm [.type "RuntimeError", .type "Exception", .type "BaseException", .type "object"] "RuntimeError.__new__" qual st C fI) : ExRt K C := by
  obtain ⟨nm, q, N, bs, sn, sub, ab, col, dd, k0, k1, k2, k3, k5, l⟩ := h.l
  exact ⟨nm, q, N, bs, sn, sub, ab, col, dd, k0, k1, k2, k3, k5, l⟩

theorem mk_InvalidLevels (h : HasCls K "InvalidLevels" (.ref cM :: [.type "ValueError", .type "Exception", .type "BaseException", .type "object"]) "ValueError.__new__" "InvalidLevels.__init__" (initOf 2) C fI) (hk : okAll K cs cM = true) (e : cs.getD 0 0 = C) : Mkr P w K mg base C "value" := by
  obtain ⟨fd, F⟩ := h.F
  have A := okAll_at hk 0 (by decide)
  have T : ExG K C := h.exG A e PySem.F.excBase_ValueError (makesV cM) mroValue.cons
  subst e
  exact mkrOf ⟨rfl, rfl, rfl, by decide +kernel, rfl, by decide +kernel, by decide +kernel⟩ ⟨_, _, _, _, rfl⟩ (fun _ _ _ _ _ _ us hl => match us, hl with | [_, _], _ => rfl) (fun _ _ _ _ _ _ _ _ => rfl) (by decide +kernel) (by decide +kernel) F T h.i h.t A.nv
theorem mk_InvalidLevel (h : HasCls K "InvalidLevel" (.ref cM :: [.type "ValueError", .type "Exception", .type "BaseException", .type "object"]) "ValueError.__new__" "InvalidLevel.__init__" (initOf 3) C fI) (hk : okAll K cs cM = true) (e : cs.getD 1 0 = C) : Mkr P w K mg base C "value" := by
  obtain ⟨fd, F⟩ := h.F
  have A := okAll_at hk 1 (by decide)
  have T : ExG K C := h.exG A e PySem.F.excBase_ValueError (makesV cM) mroValue.cons
  subst e
  exact mkrOf ⟨rfl, rfl, rfl, by decide +kernel, rfl, by decide +kernel, by decide +kernel⟩ ⟨_, _, _, _, rfl⟩ (fun _ _ _ _ _ _ us hl => match us, hl with | [_, _], _ => rfl) (fun _ _ _ _ _ _ _ _ => rfl) (by decide +kernel) (by decide +kernel) F T h.i h.t A.nv
theorem mk_InvalidName (h : HasCls K "InvalidName" (.ref cM :: [.type "ValueError", .type "Exception", .type "BaseException", .type "object"]) "ValueError.__new__" "InvalidName.__init__" (initOf 4) C fI) (hk : okAll K cs cM = true) (e : cs.getD 2 0 = C) : Mkr P w K mg base C "value" := by
  obtain ⟨fd, F⟩ := h.F
  have A := okAll_at hk 2 (by decide)
  have T : ExG K C := h.exG A e PySem.F.excBase_ValueError (makesV cM) mroValue.cons
  subst e
  exact mkrOf ⟨rfl, rfl, rfl, by decide +kernel, rfl, by decide +kernel, by decide +kernel⟩ ⟨_, _, _, _, rfl⟩ (fun _ _ _ _ _ _ us hl => match us, hl with | [_, _], _ => rfl) (fun _ _ _ _ _ _ _ _ => rfl) (by decide +kernel) (by decide +kernel) F T h.i h.t A.nv
theorem mk_InvalidNumber (h : HasCls K "InvalidNumber" (.ref cM :: [.type "ValueError", .type "Exception", .type "BaseException", .type "object"]) "ValueError.__new__" "InvalidNumber.__init__" (initOf 5) C fI) (hk : okAll K cs cM = true) (e : cs.getD 3 0 = C) : Mkr P w K mg base C "value" := by
  obtain ⟨fd, F⟩ := h.F
  have A := okAll_at hk 3 (by decide)
  have T : ExG K C := h.exG A e PySem.F.excBase_ValueError (makesV cM) mroValue.cons
  subst e
  exact mkrOf ⟨rfl, rfl, rfl, by decide +kernel, rfl, by decide +kernel, by decide +kernel⟩ ⟨_, _, _, _, rfl⟩ (fun _ _ _ _ _ _ us hl => match us, hl with | [_, _], _ => rfl) (fun _ _ _ _ _ _ _ _ => rfl) (by decide +kernel) (by decide +kernel) F T h.i h.t A.nv
theorem mk_InvalidText (h : HasCls K "InvalidText" (.ref cM :: [.type "ValueError", .type "Exception", .type "BaseException", .type "object"]) "ValueError.__new__" "InvalidText.__init__" (initOf 6) C fI) (hk : okAll K cs cM = true) (e : cs.getD 4 0 = C) : Mkr P w K mg base C "value" := by
  obtain ⟨fd, F⟩ := h.F
  have A := okAll_at hk 4 (by decide)
  have T : ExG K C := h.exG A e PySem.F.excBase_ValueError (makesV cM) mroValue.cons
  subst e
  exact mkrOf ⟨rfl, rfl, rfl, by decide +kernel, rfl, by decide +kernel, by decide +kernel⟩ ⟨_, _, _, _, rfl⟩ (fun _ _ _ _ _ _ us hl => match us, hl with | [_, _], _ => rfl) (fun _ _ _ _ _ _ _ _ => rfl) (by decide +kernel) (by decide +kernel) F T h.i h.t A.nv
theorem mk_InvalidQuery (h : HasCls K "InvalidQuery" (.ref cM :: [.type "ValueError", .type "Exception", .type "BaseException", .type "object"]) "ValueError.__new__" "InvalidQuery.__init__" (initOf 7) C fI) (hk : okAll K cs cM = true) (e : cs.getD 5 0 = C) : Mkr P w K mg base C "value" := by
  obtain ⟨fd, F⟩ := h.F
  have A := okAll_at hk 5 (by decide)
  have T : ExG K C := h.exG A e PySem.F.excBase_ValueError (makesV cM) mroValue.cons
  subst e
  exact mkrOf ⟨rfl, rfl, rfl, by decide +kernel, rfl, by decide +kernel, by decide +kernel⟩ ⟨_, _, _, _, rfl⟩ (fun _ _ _ _ _ _ us hl => match us, hl with | [_, _], _ => rfl) (fun _ _ _ _ _ _ _ _ => rfl) (by decide +kernel) (by decide +kernel) F T h.i h.t A.nv
theorem mk_InvalidView (h : HasCls K "InvalidView" (.ref cM :: [.type "ValueError", .type "Exception", .type "BaseException", .type "object"]) "ValueError.__new__" "InvalidView.__init__" (initOf 8) C fI) (hk : okAll K cs cM = true) (e : cs.getD 6 0 = C) : Mkr P w K mg base C "value" := by
  obtain ⟨fd, F⟩ := h.F
  have A := okAll_at hk 6 (by decide)
  have T : ExG K C := h.exG A e PySem.F.excBase_ValueError (makesV cM) mroValue.cons
  subst e
  exact mkrOf ⟨rfl, rfl, rfl, by decide +kernel, rfl, by decide +kernel, by decide +kernel⟩ ⟨_, _, _, _, rfl⟩ (fun _ _ _ _ _ _ us hl => match us, hl with | [_, _], _ => rfl) (fun _ _ _ _ _ _ _ _ => rfl) (by decide +kernel) (by decide +kernel) F T h.i h.t A.nv
theorem mk_InvalidMoment (h : HasCls K "InvalidMoment" (.ref cM :: [.type "ValueError", .type "Exception", .type "BaseException", .type "object"]) "ValueError.__new__" "InvalidMoment.__init__" (initOf 9) C fI) (hk : okAll K cs cM = true) (e : cs.getD 7 0 = C) : Mkr P w K mg base C "value" := by
  obtain ⟨fd, F⟩ := h.F
  have A := okAll_at hk 7 (by decide)
  have T : ExG K C := h.exG A e PySem.F.excBase_ValueError (makesV cM) mroValue.cons
  subst e
  exact mkrOf ⟨rfl, rfl, rfl, by decide +kernel, rfl, by decide +kernel, by decide +kernel⟩ ⟨_, _, _, _, rfl⟩ (fun _ _ _ _ _ _ us hl => match us, hl with | [_, _], _ => rfl) (fun _ _ _ _ _ _ _ _ => rfl) (by decide +kernel) (by decide +kernel) F T h.i h.t A.nv
theorem mk_InvalidEdit (h : HasCls K "InvalidEdit" (.ref cM :: [.type "ValueError", .type "Exception", .type "BaseException", .type "object"]) "ValueError.__new__" "InvalidEdit.__init__" (initOf 10) C fI) (hk : okAll K cs cM = true) (e : cs.getD 8 0 = C) : Mkr P w K mg base C "value" := by
  obtain ⟨fd, F⟩ := h.F
  have A := okAll_at hk 8 (by decide)
  have T : ExG K C := h.exG A e PySem.F.excBase_ValueError (makesV cM) mroValue.cons
  subst e
  exact mkrOf ⟨rfl, rfl, rfl, by decide +kernel, rfl, by decide +kernel, by decide +kernel⟩ ⟨_, _, _, _, rfl⟩ (fun _ _ _ _ _ _ us hl => match us, hl with | [_, _], _ => rfl) (fun _ _ _ _ _ _ _ _ => rfl) (by decide +kernel) (by decide +kernel) F T h.i h.t A.nv
theorem mk_BadRecords (h : HasCls K "BadRecords" (.ref cM :: [.type "ValueError", .type "Exception", .type "BaseException", .type "object"]) "ValueError.__new__" "BadRecords.__init__" (initOf 11) C fI) (hk : okAll K cs cM = true) (e : cs.getD 9 0 = C) : Mkr P w K mg base C "value" := by
  obtain ⟨fd, F⟩ := h.F
  have A := okAll_at hk 9 (by decide)
  have T : ExG K C := h.exG A e PySem.F.excBase_ValueError (makesV cM) mroValue.cons
  subst e
  exact mkrOf ⟨rfl, rfl, rfl, by decide +kernel, rfl, by decide +kernel, by decide +kernel⟩ ⟨_, _, _, _, rfl⟩ (fun _ _ _ _ _ _ us hl => match us, hl with | [_, _], _ => rfl) (fun _ _ _ _ _ _ _ _ => rfl) (by decide +kernel) (by decide +kernel) F T h.i h.t A.nv
theorem mk_InvalidRights (h : HasCls K "InvalidRights" (.ref cM :: [.type "ValueError", .type "Exception", .type "BaseException", .type "object"]) "ValueError.__new__" "InvalidRights.__init__" (initOf 12) C fI) (hk : okAll K cs cM = true) (e : cs.getD 10 0 = C) : Mkr P w K mg base C "value" := by
  obtain ⟨fd, F⟩ := h.F
  have A := okAll_at hk 10 (by decide)
  have T : ExG K C := h.exG A e PySem.F.excBase_ValueError (makesV cM) mroValue.cons
  subst e
  exact mkrOf ⟨rfl, rfl, rfl, by decide +kernel, rfl, by decide +kernel, by decide +kernel⟩ ⟨_, _, _, _, rfl⟩ (fun _ _ _ _ _ _ us hl => match us, hl with | [_, _], _ => rfl) (fun _ _ _ _ _ _ _ _ => rfl) (by decide +kernel) (by decide +kernel) F T h.i h.t A.nv
theorem mk_InvalidLine (h : HasCls K "InvalidLine" (.ref cM :: [.type "ValueError", .type "Exception", .type "BaseException", .type "object"]) "ValueError.__new__" "InvalidLine.__init__" (initOf 13) C fI) (hk : okAll K cs cM = true) (e : cs.getD 11 0 = C) : Mkr P w K mg base C "value" := by
  obtain ⟨fd, F⟩ := h.F
  have A := okAll_at hk 11 (by decide)
  have T : ExG K C := h.exG A e PySem.F.excBase_ValueError (makesV cM) mroValue.cons
  subst e
  exact mkrOf ⟨rfl, rfl, rfl, by decide +kernel, rfl, by decide +kernel, by decide +kernel⟩ ⟨_, _, _, _, rfl⟩ (fun _ _ _ _ _ _ us hl => match us, hl with | [_, _], _ => rfl) (fun _ _ _ _ _ _ _ _ => rfl) (by decide +kernel) (by decide +kernel) F T h.i h.t A.nv
theorem mk_NoFault (h : HasCls K "NoFault" (.ref cM :: [.type "ValueError", .type "Exception", .type "BaseException", .type "object"]) "ValueError.__new__" "NoFault.__init__" (initOf 14) C fI) (hk : okAll K cs cM = true) (e : cs.getD 12 0 = C) : Mkr P w K mg base C "value" := by
  obtain ⟨fd, F⟩ := h.F
  have A := okAll_at hk 12 (by decide)
  have T : ExG K C := h.exG A e PySem.F.excBase_ValueError (makesV cM) mroValue.cons
  subst e
  exact mkrOf ⟨rfl, rfl, rfl, by decide +kernel, rfl, by decide +kernel, by decide +kernel⟩ ⟨_, _, _, _, rfl⟩ (fun _ _ _ _ _ _ us hl => match us, hl with | [_, _], _ => rfl) (fun _ _ _ _ _ _ _ _ => rfl) (by decide +kernel) (by decide +kernel) F T h.i h.t A.nv
theorem mk_NotSeen (h : HasCls K "NotSeen" [.type "KeyError", .type "LookupError", .type "Exception", .type "BaseException", .type "object"] "LookupError.__new__" "NotSeen.__init__" (initOf 16) C fI) (hk : okAll K cs cM = true) (e : cs.getD 13 0 = C) : Mkr P w K mg base C "value" := by
  obtain ⟨fd, F⟩ := h.F
  have A := okAll_at hk 13 (by decide)
  have T : ExG K C := h.exG A e PySem.F.excBase_LookupError makesK mroKey
  subst e
  exact mkrOf ⟨rfl, rfl, rfl, by decide +kernel, rfl, by decide +kernel, by decide +kernel⟩ ⟨_, _, _, _, rfl⟩ (fun _ _ _ _ _ _ us hl => match us, hl with | [_, _], _ => rfl) (fun _ _ _ _ _ _ _ _ => rfl) (by decide +kernel) (by decide +kernel) F T h.i h.t A.nv
theorem mk_NoOffer (h : HasCls K "NoOffer" [.type "KeyError", .type "LookupError", .type "Exception", .type "BaseException", .type "object"] "LookupError.__new__" "NoOffer.__init__" (initOf 17) C fI) (hk : okAll K cs cM = true) (e : cs.getD 14 0 = C) : Mkr P w K mg base C "value" := by
  obtain ⟨fd, F⟩ := h.F
  have A := okAll_at hk 14 (by decide)
  have T : ExG K C := h.exG A e PySem.F.excBase_LookupError makesK mroKey
  subst e
  exact mkrOf ⟨rfl, rfl, rfl, by decide +kernel, rfl, by decide +kernel, by decide +kernel⟩ ⟨_, _, _, _, rfl⟩ (fun _ _ _ _ _ _ us hl => match us, hl with | [_, _], _ => rfl) (fun _ _ _ _ _ _ _ _ => rfl) (by decide +kernel) (by decide +kernel) F T h.i h.t A.nv
theorem mk_NoRight (h : HasCls K "NoRight" [.type "RuntimeError", .type "Exception", .type "BaseException", .type "object"] "RuntimeError.__new__" "NoRight.__init__" (initOf 19) C fI) (hk : okAll K cs cM = true) (e : cs.getD 15 0 = C) : Mkr P w K mg base C "value" := by
  obtain ⟨fd, F⟩ := h.F
  have A := okAll_at hk 15 (by decide)
  have T : ExG K C := h.exG A e PySem.F.excBase_RuntimeError makesR mroRuntime
  subst e
  exact mkrOf ⟨rfl, rfl, rfl, by decide +kernel, rfl, by decide +kernel, by decide +kernel⟩ ⟨_, _, _, _, rfl⟩ (fun _ _ _ _ _ _ us hl => match us, hl with | [_, _], _ => rfl) (fun _ _ _ _ _ _ _ _ => rfl) (by decide +kernel) (by decide +kernel) F T h.i h.t A.nv
theorem mk_SameUser (h : HasCls K "SameUser" [.type "RuntimeError", .type "Exception", .type "BaseException", .type "object"] "RuntimeError.__new__" "SameUser.__init__" (initOf 20) C fI) (hk : okAll K cs cM = true) (e : cs.getD 16 0 = C) : Mkr P w K mg base C "value" := by
  obtain ⟨fd, F⟩ := h.F
  have A := okAll_at hk 16 (by decide)
  have T : ExG K C := h.exG A e PySem.F.excBase_RuntimeError makesR mroRuntime
  subst e
  exact mkrOf ⟨rfl, rfl, rfl, by decide +kernel, rfl, by decide +kernel, by decide +kernel⟩ ⟨_, _, _, _, rfl⟩ (fun _ _ _ _ _ _ us hl => match us, hl with | [_, _], _ => rfl) (fun _ _ _ _ _ _ _ _ => rfl) (by decide +kernel) (by decide +kernel) F T h.i h.t A.nv
theorem mk_InvalidScript (h : HasCls K "InvalidScript" (.ref cM :: [.type "ValueError", .type "Exception", .type "BaseException", .type "object"]) "ValueError.__new__" "InvalidScript.__init__" (initOf 15) C fI) (hk : okAll K cs cM = true) (e : cs.getD 17 0 = C) : Mkr P w K mg base C "at" := by
  obtain ⟨fd, F⟩ := h.F
  have A := okAll_at hk 17 (by decide)
  have T : ExG K C := h.exG A e PySem.F.excBase_ValueError (makesV cM) mroValue.cons
  subst e
  exact mkrOf ⟨rfl, rfl, rfl, by decide +kernel, rfl, by decide +kernel, by decide +kernel⟩ ⟨_, _, _, _, rfl⟩ (fun _ _ _ _ _ _ us hl => match us, hl with | [_, _], _ => rfl) (fun _ _ _ _ _ _ _ _ => rfl) (by decide +kernel) (by decide +kernel) F T h.i h.t A.na
theorem mk_Refused (h : HasCls K "Refused" [.type "RuntimeError", .type "Exception", .type "BaseException", .type "object"] "RuntimeError.__new__" "Refused.__init__" (initOf 18) C fI) (hk : okAll K cs cM = true) (e : cs.getD 18 0 = C) : Mkr2 P w K mg base C "word" "value" := by
  obtain ⟨fd, F⟩ := h.F
  have A := okAll_at hk 18 (by decide)
  have T : ExG K C := h.exG A e PySem.F.excBase_RuntimeError makesR mroRuntime
  subst e
  exact mkr2Of ⟨rfl, rfl, rfl, by decide +kernel, rfl, by decide +kernel, by decide +kernel⟩ ⟨_, _, _, _, _, _, _, _, rfl⟩ (fun _ _ _ _ _ _ us hl => match us, hl with | [_, _, _], _ => rfl) (fun _ _ _ _ _ _ _ _ _ => rfl) (fun _ _ _ _ _ _ _ _ _ => rfl) (by decide +kernel) (by decide +kernel) (by decide +kernel) (by decide +kernel) F T h.i h.t A.nw A.nv
theorem mk_Closed (h : HasCls K "Closed" [.type "RuntimeError", .type "Exception", .type "BaseException", .type "object"] "RuntimeError.__new__" "Closed.__init__" (initOf 21) C fI) (hk : okAll K cs cM = true) (e : cs.getD 19 0 = C) (hm : mg "RuntimeError" = none)
    (vV : PySem.W.findCls K (.type "RuntimeError") (.type "type") "__init__" = some (.val (.builtin "RuntimeError.__init__"))) : Mkr0 P w K mg base C := by
  obtain ⟨fd, F⟩ := h.F
  have T : ExG K C := h.exG (okAll_at hk 19 (by decide)) e PySem.F.excBase_RuntimeError makesR mroRuntime
  exact mkr0Of (ok_Closed F h.exRt hm vV) (fun _ _ _ _ _ _ us hl => match us, hl with | [_], _ => rfl) F T h.i h.t
theorem mk_NoServer (h : HasCls K "NoServer" [.type "RuntimeError", .type "Exception", .type "BaseException", .type "object"] "RuntimeError.__new__" "NoServer.__init__" (initOf 22) C fI) (hk : okAll K cs cM = true) (e : cs.getD 20 0 = C) (hm : mg "RuntimeError" = none)
    (vV : PySem.W.findCls K (.type "RuntimeError") (.type "type") "__init__" = some (.val (.builtin "RuntimeError.__init__"))) : Mkr0 P w K mg base C := by
  obtain ⟨fd, F⟩ := h.F
  have T : ExG K C := h.exG (okAll_at hk 20 (by decide)) e PySem.F.excBase_RuntimeError makesR mroRuntime
  exact mkr0Of (ok_NoServer F h.exRt hm vV) (fun _ _ _ _ _ _ us hl => match us, hl with | [_], _ => rfl) F T h.i h.t
end
theorem all_mk {l : PySem.W.OpenLaw} {w : World} {K : PySem.W.Frag} {h : Heap} {mg : Str → Option Value} {fa cM c0 c1 c2 c3 c4 c5 c6 c7 c8 c9 c10 c11 c12 c13 c14 c15 c16 c17 c18 c19 c20 i0 i1 i2 i3 i4 i5 i6 i7 i8 i9 i10 i11 i12 i13 i14 i15 i16 i17 i18 i19 i20 d0 d1 d2 d3 d4 d5 d6 d7 d8 : Addr} (X : K.In h) (G : h.Ns mainGlobals mg) (hfa : mg "law" = some (.ref fa))
    (gM : PySem.W.nsIn K mainGlobals "MaskError" = some (some (.ref cM)))
    (h0 : HasCls K "InvalidLevels" (.ref cM :: [.type "ValueError", .type "Exception", .type "BaseException", .type "object"]) "ValueError.__new__" "InvalidLevels.__init__" (initOf 2) c0 i0)
    (h1 : HasCls K "InvalidLevel" (.ref cM :: [.type "ValueError", .type "Exception", .type "BaseException", .type "object"]) "ValueError.__new__" "InvalidLevel.__init__" (initOf 3) c1 i1)
    (h2 : HasCls K "InvalidName" (.ref cM :: [.type "ValueError", .type "Exception", .type "BaseException", .type "object"]) "ValueError.__new__" "InvalidName.__init__" (initOf 4) c2 i2)
    (h3 : HasCls K "InvalidNumber" (.ref cM :: [.type "ValueError", .type "Exception", .type "BaseException", .type "object"]) "ValueError.__new__" "InvalidNumber.__init__" (initOf 5) c3 i3)
    (h4 : HasCls K "InvalidText" (.ref cM :: [.type "ValueError", .type "Exception", .type "BaseException", .type "object"]) "ValueError.__new__" "InvalidText.__init__" (initOf 6) c4 i4)
    (h5 : HasCls K "InvalidQuery" (.ref cM :: [.type "ValueError", .type "Exception", .type "BaseException", .type "object"]) "ValueError.__new__" "InvalidQuery.__init__" (initOf 7) c5 i5)
    (h6 : HasCls K "InvalidView" (.ref cM :: [.type "ValueError", .type "Exception", .type "BaseException", .type "object"]) "ValueError.__new__" "InvalidView.__init__" (initOf 8) c6 i6)
    (h7 : HasCls K "InvalidMoment" (.ref cM :: [.type "ValueError", .type "Exception", .type "BaseException", .type "object"]) "ValueError.__new__" "InvalidMoment.__init__" (initOf 9) c7 i7)
    (h8 : HasCls K "InvalidEdit" (.ref cM :: [.type "ValueError", .type "Exception", .type "BaseException", .type "object"]) "ValueError.__new__" "InvalidEdit.__init__" (initOf 10) c8 i8)
    (h9 : HasCls K "BadRecords" (.ref cM :: [.type "ValueError", .type "Exception", .type "BaseException", .type "object"]) "ValueError.__new__" "BadRecords.__init__" (initOf 11) c9 i9)
    (h10 : HasCls K "InvalidRights" (.ref cM :: [.type "ValueError", .type "Exception", .type "BaseException", .type "object"]) "ValueError.__new__" "InvalidRights.__init__" (initOf 12) c10 i10)
    (h11 : HasCls K "InvalidLine" (.ref cM :: [.type "ValueError", .type "Exception", .type "BaseException", .type "object"]) "ValueError.__new__" "InvalidLine.__init__" (initOf 13) c11 i11)
    (h12 : HasCls K "NoFault" (.ref cM :: [.type "ValueError", .type "Exception", .type "BaseException", .type "object"]) "ValueError.__new__" "NoFault.__init__" (initOf 14) c12 i12)
    (h13 : HasCls K "NotSeen" [.type "KeyError", .type "LookupError", .type "Exception", .type "BaseException", .type "object"] "LookupError.__new__" "NotSeen.__init__" (initOf 16) c13 i13)
    (h14 : HasCls K "NoOffer" [.type "KeyError", .type "LookupError", .type "Exception", .type "BaseException", .type "object"] "LookupError.__new__" "NoOffer.__init__" (initOf 17) c14 i14)
    (h15 : HasCls K "NoRight" [.type "RuntimeError", .type "Exception", .type "BaseException", .type "object"] "RuntimeError.__new__" "NoRight.__init__" (initOf 19) c15 i15)
    (h16 : HasCls K "SameUser" [.type "RuntimeError", .type "Exception", .type "BaseException", .type "object"] "RuntimeError.__new__" "SameUser.__init__" (initOf 20) c16 i16)
    (h17 : HasCls K "InvalidScript" (.ref cM :: [.type "ValueError", .type "Exception", .type "BaseException", .type "object"]) "ValueError.__new__" "InvalidScript.__init__" (initOf 15) c17 i17)
    (h18 : HasCls K "Refused" [.type "RuntimeError", .type "Exception", .type "BaseException", .type "object"] "RuntimeError.__new__" "Refused.__init__" (initOf 18) c18 i18)
    (h19 : HasCls K "Closed" [.type "RuntimeError", .type "Exception", .type "BaseException", .type "object"] "RuntimeError.__new__" "Closed.__init__" (initOf 21) c19 i19)
    (h20 : HasCls K "NoServer" [.type "RuntimeError", .type "Exception", .type "BaseException", .type "object"] "RuntimeError.__new__" "NoServer.__init__" (initOf 22) c20 i20)
    (e0 : HasDef K "_law_pool" sPool d0)
    (e1 : HasDef K "_law_take" sTake d1)
    (e2 : HasDef K "_law_at" sAt d2)
    (e3 : HasDef K "_law_value_kinds" sValue d3)
    (e4 : HasDef K "_law_all_kinds" sAll d4)
    (e5 : HasDef K "_law_bases" sBases d5)
    (e6 : HasDef K "_law_by_place" sPlace d6)
    (e7 : HasDef K "_law_by_name" sName d7)
    (e8 : HasDef K "law" sLaw d8)
    (z0 : PySem.W.nsIn K mainGlobals "len" = some none)
    (z1 : PySem.W.nsIn K mainGlobals "range" = some none)
    (z2 : PySem.W.nsIn K mainGlobals "max" = some none)
    (z3 : PySem.W.nsIn K mainGlobals "min" = some none)
    (z4 : PySem.W.nsIn K mainGlobals "enumerate" = some none)
    (z5 : PySem.W.nsIn K mainGlobals "repr" = some none)
    (z6 : PySem.W.nsIn K mainGlobals "isinstance" = some none)
    (z7 : PySem.W.nsIn K mainGlobals "ValueError" = some none)
    (z8 : PySem.W.nsIn K mainGlobals "KeyError" = some none)
    (z9 : PySem.W.nsIn K mainGlobals "RuntimeError" = some none)
    (hk : okAll K [c0, c1, c2, c3, c4, c5, c6, c7, c8, c9, c10, c11, c12, c13, c14, c15, c16, c17, c18, c19, c20] cM = true)
    (vV : PySem.W.findCls K (.type "RuntimeError") (.type "type") "__init__" = some (.val (.builtin "RuntimeError.__init__"))) :
    ∃ fd : FuncData, (∀ (s : Shared) (v : Value), BindsTo s fd ⟨[v], []⟩ [("_law_script", v)]) ∧ ∀ base : Heap, K.In base → base.Ns mainGlobals mg → FnG l.prog w K mg base CX0 6 fa fd ["_law_script"] (spLaw K) := by
  have e := hfa.symm.trans (PySem.W.mg_of X G e8.g)
  cases e
  let c : Nat → Addr := fun i => ([c0, c1, c2, c3, c4, c5, c6, c7, c8, c9, c10, c11, c12, c13, c14, c15, c16, c17, c18, c19, c20] : List Addr).getD i 0
  have O := okAll_at hk
  have T0 : Txt mg := ⟨PySem.W.mg_none_of X G z0, PySem.W.mg_none_of X G z1⟩
  have T : Tx K mg c := ⟨T0, PySem.W.mg_none_of X G z2, PySem.W.mg_none_of X G z3, PySem.W.mg_none_of X G z4, PySem.W.mg_none_of X G z5, fun i hi => (O i (by omega)).nv, (O 17 (by decide)).na, (O 18 (by decide)).nw⟩
  have hR : mg "RuntimeError" = none := PySem.W.mg_none_of X G z9
  have C : Cl K mg c cM := ⟨PySem.W.mg_of X G h0.g, PySem.W.mg_of X G h1.g, PySem.W.mg_of X G h2.g, PySem.W.mg_of X G h3.g, PySem.W.mg_of X G h4.g, PySem.W.mg_of X G h5.g, PySem.W.mg_of X G h6.g, PySem.W.mg_of X G h7.g, PySem.W.mg_of X G h8.g, PySem.W.mg_of X G h9.g, PySem.W.mg_of X G h10.g, PySem.W.mg_of X G h11.g, PySem.W.mg_of X G h12.g, PySem.W.mg_of X G h13.g, PySem.W.mg_of X G h14.g, PySem.W.mg_of X G h15.g, PySem.W.mg_of X G h16.g, PySem.W.mg_of X G h17.g, PySem.W.mg_of X G h18.g, PySem.W.mg_of X G h19.g, PySem.W.mg_of X G h20.g, PySem.W.mg_of X G gM,
    PySem.W.mg_none_of X G z6, PySem.W.mg_none_of X G z7, PySem.W.mg_none_of X G z8, hR, fun i hi => (O i hi).R, fun i hi => (O i hi).kit, fun i hi => (O i hi).kM, fun i hi => (O i hi).kV, fun i hi => (O i hi).kK, fun i hi => (O i hi).kR⟩
  obtain ⟨g0, k0, fd0, F0⟩ := e0
  have b0 := F0.binds (ps := ["_law_script", "_law_k"]) fun _ _ _ _ _ _ us hl => match us, hl with | [_, _], _ => rfl
  obtain ⟨g1, k1, fd1, F1⟩ := e1
  have b1 := F1.binds (ps := ["_law_pool_here", "_law_sides"]) fun _ _ _ _ _ _ us hl => match us, hl with | [_, _], _ => rfl
  obtain ⟨g2, k2, fd2, F2⟩ := e2
  have b2 := F2.binds (ps := ["_law_kinds"]) fun _ _ _ _ _ _ us hl => match us, hl with | [_], _ => rfl
  obtain ⟨g3, k3, fd3, F3⟩ := e3
  have b3 := F3.binds (ps := ["_law_e"]) fun _ _ _ _ _ _ us hl => match us, hl with | [_], _ => rfl
  obtain ⟨g4, k4, fd4, F4⟩ := e4
  have b4 := F4.binds (ps := ["_law_e"]) fun _ _ _ _ _ _ us hl => match us, hl with | [_], _ => rfl
  obtain ⟨g5, k5, fd5, F5⟩ := e5
  have b5 := F5.binds (ps := ["_law_e"]) fun _ _ _ _ _ _ us hl => match us, hl with | [_], _ => rfl
  obtain ⟨g6, k6, fd6, F6⟩ := e6
  have b6 := F6.binds (ps := ["_law_one"]) fun _ _ _ _ _ _ us hl => match us, hl with | [_], _ => rfl
  obtain ⟨g7, k7, fd7, F7⟩ := e7
  have b7 := F7.binds (ps := ["_law_one"]) fun _ _ _ _ _ _ us hl => match us, hl with | [_], _ => rfl
  obtain ⟨g8, k8, fd8, F8⟩ := e8
  have b8 := F8.binds (ps := ["_law_script"]) fun _ _ _ _ _ _ us hl => match us, hl with | [_], _ => rfl
  have hb : ∀ (s : Shared) (v : Value), BindsTo s fd8 ⟨[v], []⟩ [("_law_script", v)] := by
    obtain ⟨oc, od, kV, doc, pm, an, cdv, ct, osl, rfl, _, _⟩ := F8.ex
    exact fun s v => .of_eq rfl
  refine ⟨fd8, hb, fun base _ _ => ?_⟩
  have M : Mks l.prog w K mg base c := ⟨fun i hi => match i, hi with
    | 0, _ => mk_InvalidLevels h0 hk rfl
    | 1, _ => mk_InvalidLevel h1 hk rfl
    | 2, _ => mk_InvalidName h2 hk rfl
    | 3, _ => mk_InvalidNumber h3 hk rfl
    | 4, _ => mk_InvalidText h4 hk rfl
    | 5, _ => mk_InvalidQuery h5 hk rfl
    | 6, _ => mk_InvalidView h6 hk rfl
    | 7, _ => mk_InvalidMoment h7 hk rfl
    | 8, _ => mk_InvalidEdit h8 hk rfl
    | 9, _ => mk_BadRecords h9 hk rfl
    | 10, _ => mk_InvalidRights h10 hk rfl
    | 11, _ => mk_InvalidLine h11 hk rfl
    | 12, _ => mk_NoFault h12 hk rfl
    | 13, _ => mk_NotSeen h13 hk rfl
    | 14, _ => mk_NoOffer h14 hk rfl
    | 15, _ => mk_NoRight h15 hk rfl
    | 16, _ => mk_SameUser h16 hk rfl
    | n + 17, z => absurd z (by omega), mk_InvalidScript h17 hk rfl, mk_Refused h18 hk rfl, mk_Closed h19 hk rfl hR vV, mk_NoServer h20 hk rfl hR vV⟩
  have D : Ds l.prog w K mg base c := ⟨⟨_, _, PySem.W.mg_of X G g0, k0, ok_pool F0 T0, b0⟩, ⟨_, _, PySem.W.mg_of X G g1, k1, ok_take F1 T0, b1⟩, ⟨_, _, PySem.W.mg_of X G g2, k2, ok_at F2 T0, b2⟩,
    ⟨_, _, PySem.W.mg_of X G g4, k4, ok_all F4 C F3 b3 (PySem.W.mg_of X G g3), b4⟩, ⟨_, _, PySem.W.mg_of X G g5, k5, ok_bases F5 C, b5⟩, ⟨_, _, PySem.W.mg_of X G g6, k6, ok_Place F6 C M, b6⟩, ⟨_, _, PySem.W.mg_of X G g7, k7, ok_Name F7 C M, b7⟩⟩
  exact ok_law F8 T C M D
theorem walk {l : PySem.W.OpenLaw} {q : Program} {loose : List Str} {XP : (Str → Option Value) → Heap → Prop} {YP : World → Heap → Prop} {d : DefRec} {K : Params → PySem.W.Frag} (hn : l.most = some 63) (hdf : d.params.defaults = [])
    (hY : ∀ (w : World) (h : Heap), YP w h → (K w.params).In h)
    (F : ∀ (w : World) (mg : Str → Option Value) (fa : Addr) (h : Heap), (K w.params).In h → h.Ns mainGlobals mg → mg d.name = some (.ref fa) →
      ∃ fd : FuncData, (∀ (s : Shared) (u : Value), BindsTo s fd ⟨[u], []⟩ [("_law_script", u)]) ∧ ∀ base : Heap, (K w.params).In base → base.Ns mainGlobals mg → FnG l.prog w (K w.params) mg base CX0 6 fa fd ["_law_script"] (spLaw (K w.params))) :
    PySem.W.WalkO q loose XP YP l.row.toRowW d [] (fun f vs => PySem.call f vs) :=
  My.walkG (n := 63) (k := 6) (x := "_law_script") (sp := fun w => spLaw (K w.params)) hn (by decide) hdf ⟨rfl, by decide, by decide⟩ hY F fun _ _ a ns hl _ hS => ⟨a, ns, rfl, hS, hl, fun _ => rfl⟩
end K02
open PySem PySem.W PyProof.Rows in
set_option maxRecDepth 100000 in
set_option maxHeartbeats 0 in
theorem PySem.Challenge.cw_maskededits_k02_exceptions_apart_holds : PySem.Challenge.rw_maskededits_k02_exceptions_apart.Holds := by
  w_on; o_law; k_head; (case hw => w_witness2)
  k_fill
  refine K02.walk (l := PySem.Challenge.rw_maskededits_k02_exceptions_apart) rfl rfl (fun w h Y => PySem.W.kIn_of Y) ?F
  case F =>
    intro w mg fa h KX G hmg
    refine' K02.all_mk KX G hmg ?gM ?h0 ?h1 ?h2 ?h3 ?h4 ?h5 ?h6 ?h7 ?h8 ?h9 ?h10 ?h11 ?h12 ?h13 ?h14 ?h15 ?h16 ?h17 ?h18 ?h19 ?h20 ?e0 ?e1 ?e2 ?e3 ?e4 ?e5 ?e6 ?e7 ?e8 ?z0 ?z1 ?z2 ?z3 ?z4 ?z5 ?z6 ?z7 ?z8 ?z9 ?hk ?vV
    (case gM => k_is)
    (case h0 => refine' K02.hasCls ?g ?l ?i ?t ?lf ?cf ?kf; (case g => k_is); (case l => k_is); (case i => k_is); (case t => k_is); (case lf => k_is); (case cf => k_is); (case kf => k_is))
    (case h1 => refine' K02.hasCls ?g ?l ?i ?t ?lf ?cf ?kf; (case g => k_is); (case l => k_is); (case i => k_is); (case t => k_is); (case lf => k_is); (case cf => k_is); (case kf => k_is))
    (case h2 => refine' K02.hasCls ?g ?l ?i ?t ?lf ?cf ?kf; (case g => k_is); (case l => k_is); (case i => k_is); (case t => k_is); (case lf => k_is); (case cf => k_is); (case kf => k_is))
    (case h3 => refine' K02.hasCls ?g ?l ?i ?t ?lf ?cf ?kf; (case g => k_is); (case l => k_is); (case i => k_is); (case t => k_is); (case lf => k_is); (case cf => k_is); (case kf => k_is))
    (case h4 => refine' K02.hasCls ?g ?l ?i ?t ?lf ?cf ?kf; (case g => k_is); (case l => k_is); (case i => k_is); (case t => k_is); (case lf => k_is); (case cf => k_is); (case kf => k_is))
    (case h5 => refine' K02.hasCls ?g ?l ?i ?t ?lf ?cf ?kf; (case g => k_is); (case l => k_is); (case i => k_is); (case t => k_is); (case lf => k_is); (case cf => k_is); (case kf => k_is))
    (case h6 => refine' K02.hasCls ?g ?l ?i ?t ?lf ?cf ?kf; (case g => k_is); (case l => k_is); (case i => k_is); (case t => k_is); (case lf => k_is); (case cf => k_is); (case kf => k_is))
    (case h7 => refine' K02.hasCls ?g ?l ?i ?t ?lf ?cf ?kf; (case g => k_is); (case l => k_is); (case i => k_is); (case t => k_is); (case lf => k_is); (case cf => k_is); (case kf => k_is))
    (case h8 => refine' K02.hasCls ?g ?l ?i ?t ?lf ?cf ?kf; (case g => k_is); (case l => k_is); (case i => k_is); (case t => k_is); (case lf => k_is); (case cf => k_is); (case kf => k_is))
    (case h9 => refine' K02.hasCls ?g ?l ?i ?t ?lf ?cf ?kf; (case g => k_is); (case l => k_is); (case i => k_is); (case t => k_is); (case lf => k_is); (case cf => k_is); (case kf => k_is))
    (case h10 => refine' K02.hasCls ?g ?l ?i ?t ?lf ?cf ?kf; (case g => k_is); (case l => k_is); (case i => k_is); (case t => k_is); (case lf => k_is); (case cf => k_is); (case kf => k_is))
    (case h11 => refine' K02.hasCls ?g ?l ?i ?t ?lf ?cf ?kf; (case g => k_is); (case l => k_is); (case i => k_is); (case t => k_is); (case lf => k_is); (case cf => k_is); (case kf => k_is))
    (case h12 => refine' K02.hasCls ?g ?l ?i ?t ?lf ?cf ?kf; (case g => k_is); (case l => k_is); (case i => k_is); (case t => k_is); (case lf => k_is); (case cf => k_is); (case kf => k_is))
    (case h13 => refine' K02.hasCls ?g ?l ?i ?t ?lf ?cf ?kf; (case g => k_is); (case l => k_is); (case i => k_is); (case t => k_is); (case lf => k_is); (case cf => k_is); (case kf => k_is))
    (case h14 => refine' K02.hasCls ?g ?l ?i ?t ?lf ?cf ?kf; (case g => k_is); (case l => k_is); (case i => k_is); (case t => k_is); (case lf => k_is); (case cf => k_is); (case kf => k_is))
    (case h15 => refine' K02.hasCls ?g ?l ?i ?t ?lf ?cf ?kf; (case g => k_is); (case l => k_is); (case i => k_is); (case t => k_is); (case lf => k_is); (case cf => k_is); (case kf => k_is))
    (case h16 => refine' K02.hasCls ?g ?l ?i ?t ?lf ?cf ?kf; (case g => k_is); (case l => k_is); (case i => k_is); (case t => k_is); (case lf => k_is); (case cf => k_is); (case kf => k_is))
    (case h17 => refine' K02.hasCls ?g ?l ?i ?t ?lf ?cf ?kf; (case g => k_is); (case l => k_is); (case i => k_is); (case t => k_is); (case lf => k_is); (case cf => k_is); (case kf => k_is))
    (case h18 => refine' K02.hasCls ?g ?l ?i ?t ?lf ?cf ?kf; (case g => k_is); (case l => k_is); (case i => k_is); (case t => k_is); (case lf => k_is); (case cf => k_is); (case kf => k_is))
    (case h19 => refine' K02.hasCls ?g ?l ?i ?t ?lf ?cf ?kf; (case g => k_is); (case l => k_is); (case i => k_is); (case t => k_is); (case lf => k_is); (case cf => k_is); (case kf => k_is))
    (case h20 => refine' K02.hasCls ?g ?l ?i ?t ?lf ?cf ?kf; (case g => k_is); (case l => k_is); (case i => k_is); (case t => k_is); (case lf => k_is); (case cf => k_is); (case kf => k_is))
    (case e0 => refine' K02.hasDef ?g ?lf ?cf ?kf; (case g => k_is); (case lf => k_is); (case cf => k_is); (case kf => k_is))
    (case e1 => refine' K02.hasDef ?g ?lf ?cf ?kf; (case g => k_is); (case lf => k_is); (case cf => k_is); (case kf => k_is))
    (case e2 => refine' K02.hasDef ?g ?lf ?cf ?kf; (case g => k_is); (case lf => k_is); (case cf => k_is); (case kf => k_is))
    (case e3 => refine' K02.hasDef ?g ?lf ?cf ?kf; (case g => k_is); (case lf => k_is); (case cf => k_is); (case kf => k_is))
    (case e4 => refine' K02.hasDef ?g ?lf ?cf ?kf; (case g => k_is); (case lf => k_is); (case cf => k_is); (case kf => k_is))
    (case e5 => refine' K02.hasDef ?g ?lf ?cf ?kf; (case g => k_is); (case lf => k_is); (case cf => k_is); (case kf => k_is))
    (case e6 => refine' K02.hasDef ?g ?lf ?cf ?kf; (case g => k_is); (case lf => k_is); (case cf => k_is); (case kf => k_is))
    (case e7 => refine' K02.hasDef ?g ?lf ?cf ?kf; (case g => k_is); (case lf => k_is); (case cf => k_is); (case kf => k_is))
    (case e8 => refine' K02.hasDef ?g ?lf ?cf ?kf; (case g => k_is); (case lf => k_is); (case cf => k_is); (case kf => k_is))
    (case z0 => k_is)
    (case z1 => k_is)
    (case z2 => k_is)
    (case z3 => k_is)
    (case z4 => k_is)
    (case z5 => k_is)
    (case z6 => k_is)
    (case z7 => k_is)
    (case z8 => k_is)
    (case z9 => k_is)
    (case hk => first | kernel_rfl | k_is)
    (case vV => first | k_is | kernel_rfl)
