import PyProof.Rows.All
import Wide.All
import OpenK.AllK
import Wide.FinOn
import PyProof.EqAt
import PyProof.EqKinds
import PyProof.TupleCall
import HandS.Base
import HandS.Call
import HandS.List
import HandS.Comp
import HandS.Ends
import HandS.Words
import PyProof.ReprReads
import PyProof.ReprRoads
import HandS.Dict
import HandS.Exc
import HandS.ExcInit
import KE.KExcInit
import KE.KExcIs
import HandS.ExcValue
import HandS.MakeKwOnly
import HandS.IsInst
import HandS.ForMost
import HandS.Evl
import HandS.Iter
import HandS.Walk
import HandS.Text
import HandS.FStr
import HandS.Steps
import HandS.Codes
import HandS.EndTab
import HandS.SlotsOwn
import HandS.Property
import HandS.More
import KE.KEqNest
import KE.KRevSl
import HandS.Strs
import HandS.Zip
import PyProof.Rows.SetFrom
import PyProof.WalksMore
import HandS.Lambda
import HandS.Style
import HandS.WordsExc
import PySem.Challenge.RW_maskededits_k54_records_in_order
import HandS.Defaults
import KE.KeyNested
import PyProof.DictCalls
import PyProof.RaisesDict
import PyProof.InstNe
import HandS.SetKeys
import PyProof.DictMoreH
import KE.KSortTupG
import HandS.SortRule
import PyProof.NeData
import KE.KNestM
import HandS.ExcField
import KE.KLam
set_option Elab.async false
set_option linter.all false
set_option maxRecDepth 100000
set_option maxHeartbeats 4000000
/-! a def's promise for calls under which no guarded builtin runs; repr of data -/
namespace My
open PySem PySem.Spec PyProof.Rows L2

/-- as FnOk, asked only where no guard runs below -/
structure FnG (P : Program) (w : World) (K : PySem.W.Frag) (mg : Str → Option Value) (base : Heap) (CX : CXT) (k : Nat) (f : Addr) (fd : FuncData)
    (ps : List Str) (sp : Sp) : Prop where
  len : ∀ vs H Q E, sp vs H Q E → vs.length = ps.length
  run : ∀ (A : Around) (outer : List Env) (s : Shared) (H : Hp) (args : Args) (us : List Value) (vs : List V) (Q : VK) (E : XK),
    A.guards = some [] → Room k A → Env0 P w K mg base A outer s H → BindsTo s fd args (ps.zip us) → Vals vs us → sp vs H Q E →
    codeAny (model P w) A (.call (.ref f) args) (CR CX outer P w H s Q E) s

section
variable {P : Program} {w : World} {K : PySem.W.Frag} {mg : Str → Option Value} {base : Heap} {CX : CXT} {k : Nat} {f : Addr} {fd : FuncData}
  {ps : List Str} {sp : Sp}
theorem FnG.of (F : FnOk P w K mg base CX k f fd ps sp) : FnG P w K mg base CX k f fd ps sp :=
  ⟨F.len, fun A outer s H args us vs Q E _ hr e0 hb r hs => F.run A outer s H args us vs Q E hr e0 hb r hs⟩

/-- by the body, its guards known -/
theorem FnG.byBody {x qual : Str} {st : Stmt} {N : List Str} (F : Fun K x qual st f fd) (S : FnScope N ps (defScope st))
    (len : ∀ vs H Q E, sp vs H Q E → vs.length = ps.length)
    (body : ∀ (cdv : Value) (A : Around) (outer : List Env) (s : Shared) (H : Hp) (vs : List V) (Q : VK) (E : XK),
      A.guards = some [] → Room k (A.deeper (envOfC qual (defScope st) s.heap.objs.size f cdv)) → sp vs H Q E →
      ∃ t, PSs (cxOf CX P w K mg base N qual (defScope st) f cdv A outer s H E) (defBody st) t ∧
        t { nx := fun _ H' => Q .non H', rt := Q } (start N vs) H) :
    FnG P w K mg base CX (k + 1) f fd ps sp := by
  obtain ⟨oc, od, kV, doc, pm, an, cdv, ct, osl, rfl, lk, code⟩ := F.ex
  refine ⟨len, fun A outer s H args us vs Q E hg hr e0 hb r hsp => ?_⟩
  have inK : K.In s.heap := e0.mod.kin.keeps fun b o e => (e0.bs b o e).1
  have free : s.heap.NoLimit := e0.mod.nolimit.keeps fun b o e => (e0.bs b o e).1
  refine codeAny_call_function hr.depth (inK _ _ lk) rfl S.co S.gen rfl
    (PySem.W.codeRec_of inK code) (hb _ _ _ _ ?_)
  have kinds : ∀ y ∈ ps.zip us, (defScope st).names.lookup y.1 = some .local ∨
      ((defScope st).names.lookup y.1 = some .cell ∧ ((cellsFrom (s.heap.objs.size + 1) (defScope st).names []).lookup y.1).isSome = true) := by
    rintro ⟨n, v⟩ hy
    cases S.par n (List.of_mem_zip hy).1 with
    | inl q => exact Or.inl q
    | inr q => exact Or.inr ⟨q, PySem.W.cellsFrom_some _ _ _ (Or.inl q)⟩
  refine wpAny_newFunctionEnv_cells S.kind kinds fun env he s1 x => ?_
  subst he
  refine ⟨free.keeps x.toInCall.keep, codeAny_func ?_⟩
  obtain ⟨t, ht, hq⟩ := body cdv A outer s H vs Q E hg (hr.deeper _) hsp
  have I0 : Inv (cxOf CX P w K mg base N qual (defScope st) f cdv A outer s H E) [] (start N vs) H s1 :=
    inv_start S hr.hd e0 (len _ _ _ _ hsp) r x
  refine wpAny_mono (ht.run [] s1 (start N vs) H _ I0 hq) (fun fl s' hs => ?_) fun e s' hs => hs
  match fl, hs with
  | .ret u, hs =>
    obtain ⟨v, σ', H', J, rv, q⟩ := hs
    exact ⟨v, H', J.os, J.bare, J.base, J.hok, rv, q⟩
  | .next, hs =>
    obtain ⟨σ', H', J, q⟩ := hs
    exact ⟨V.non, H', J.os, J.bare, J.base, J.hok, rfl, q⟩
  | .brk, hs =>
    obtain ⟨_, _, _, q⟩ := hs
    exact False.elim q
  | .cont, hs =>
    obtain ⟨_, _, _, q⟩ := hs
    exact False.elim q
end

/-! ### the law's own call, no guard below -/
/-- the script, if it is no object of the written part -/
def onlyScript (K : PySem.W.Frag) (a : Addr) (o : Obj) (xs : List V) : Hp := fun b =>
  if b = a ∧ (K.lookup a).isNone = true then some (.frz o (.lst xs)) else none
theorem onlyScript_at {K : PySem.W.Frag} {a b : Addr} {o : Obj} {xs : List V} {u : HO} (h : onlyScript K a o xs b = some u) :
    b = a ∧ K.lookup a = none ∧ u = .frz o (.lst xs) := by
  unfold onlyScript at h
  split at h
  · next q => exact ⟨q.1, Option.isNone_iff_eq_none.mp q.2, (Option.some.inj h).symm⟩
  · cases h
theorem onlyScript_only {K : PySem.W.Frag} {a : Addr} {o : Obj} {xs : List V} : Only (onlyScript K a o xs) := fun b => by
  cases e : onlyScript K a o xs b with
  | none => exact Or.inl rfl
  | some u =>
    obtain ⟨_, _, rfl⟩ := onlyScript_at e
    exact Or.inr ⟨_, _, rfl⟩

theorem lawCall {P : Program} {w : World} {K : PySem.W.Frag} {mg mb : Str → Option Value} {k : Nat} {fa a : Addr} {fd : FuncData} {x : Str} {sp : Sp}
    {s₁ : Shared} {vs : List Value} {ns : List Int}
    (inK : K.In s₁.heap) (glob : s₁.heap.Ns mainGlobals mg) (blt : s₁.heap.Ns builtinsNs mb) (bltIs : ∀ x : Str, x ≠ "__name__" → mb x = bootBuiltins x)
    (free : s₁.heap.NoLimit) (gens : s₁.gens = #[]) (ha : s₁.heap.get? a = some { cls := .type "list", data := .seq vs.toArray }) (areInts : IntsAre vs ns)
    (len : ns.length ≤ sizeLine) (room : Room k callerA)
    (F : ∀ base : Heap, K.In base → base.Ns mainGlobals mg → FnG P w K mg base CX0 k fa fd [x] sp)
    (binds : ∀ (s : Shared) (u : Value), BindsTo s fd ⟨[u], []⟩ [(x, u)])
    (promise : ∀ H : Hp, Only H → SqL K H a (ns.map V.int) → sp [.ref a] H (fun v _ => v = .bl true) fun _ _ _ => False) :
    codeAny (model P w) callerA (.call (.ref fa) ⟨[.ref a], []⟩)
      (fun r s' => r = .ok (.ret (.bool true)) ∧ OldK s₁.heap s'.heap ∧ s'.os = s₁.os ∧ AllBare s'.gens) s₁ := by
  have rv := vals_ints areInts
  have lenV := areInts.length
  let ob : Obj := { cls := .type "list", data := .seq vs.toArray }
  let H := onlyScript K a ob (ns.map V.int)
  have objOk : ObjOk P w H s₁.heap a (.frz ob (.lst (ns.map V.int))) :=
    ⟨ha, by rw [List.length_map]; exact len, vs, _, rv, ha⟩
  have hok : HOk P w H s₁.heap := fun b u e => by
    obtain ⟨rfl, _, rfl⟩ := onlyScript_at e
    exact objOk
  have hS : SqL K H a (ns.map V.int) := by
    cases e : K.lookup a with
    | none => exact Or.inl (Or.inr ⟨ob, if_pos ⟨rfl, by rw [e]; rfl⟩⟩)
    | some o =>
      have q := inK a o e
      rw [ha] at q
      cases q
      exact Or.inr ⟨_, vs.toArray, _, e, rfl, rfl, rfl, by rw [List.size_toArray, lenV]; exact len, by simpa using rv⟩
  have freeAt : ∀ {b : Addr} {o : Obj}, s₁.heap.get? b = some o → (b = a → False) → H b = none := fun {b o} _ n => by
    cases e : H b with
    | none => rfl
    | some u => exact (n (onlyScript_at e).1).elim
  have under : ∀ {b : Addr} {o : Obj}, s₁.heap.get? b = some o → H b = none → (hidT s₁.heap H).get? b = some o := fun e n => hidT_get e n
  have maps : ∀ {b : Addr} {m : Str → Option Value}, s₁.heap.Ns b m → (hidT s₁.heap H).Ns b m := by
    rintro b m ⟨o, es, ep, e, d, r⟩
    refine ⟨o, es, ep, under e (freeAt e ?_), d, r⟩
    rintro rfl
    rw [ha] at e
    cases e
    cases d
  have inBase : K.In (hidT s₁.heap H) := fun b o e => under (inK b o e) (by
    cases q : H b with
    | none => rfl
    | some u =>
      obtain ⟨rfl, z, _⟩ := onlyScript_at q
      rw [z] at e
      cases e)
  have md : Mod K mg (hidT s₁.heap H) := by
    obtain ⟨mc, q1, q2⟩ := free
    exact ⟨inBase, maps glob, ⟨mb, maps blt, bltIs⟩, ⟨mc, maps q1, q2⟩⟩
  have nil : ∀ b : Addr, b ∈ frs [] → False := fun b z => by
    have z' : b ∈ ([] : List Addr) := z
    cases z'
  have e0 : Env0 P w K mg (hidT s₁.heap H) callerA [] s₁ H :=
    ⟨rfl, md, fun b o e => of_hidT e, Nat.le_of_eq (hidT_size _ _), trivial, fun b hb => (nil b hb).elim, hok, .of_eq gens⟩
  have run := (F _ inBase (maps glob)).run callerA [] s₁ H ⟨[.ref a], []⟩ [.ref a] [.ref a] _ _ rfl room e0 (binds s₁ (.ref a)) (.cons rfl .nil)
    (promise H onlyScript_only hS)
  refine codeAny_mono run fun r s' h => ?_
  match r, h with
  | .error e, h => exact False.elim h
  | .ok (.ret u), h =>
    obtain ⟨v, H', os, bare, un, hok', r', q⟩ := h
    obtain rfl : v = .bl true := q
    obtain rfl : u = Value.bool true := r'
    refine ⟨rfl, OldK.of_keep fun b o e => ?_, os, bare⟩
    cases q : H b with
    | none => exact un.keep b o e q (fun z => nil b z) (by simp)
    | some u =>
      obtain ⟨rfl, _, rfl⟩ := onlyScript_at q
      have q2 := un.frzs _ _ _ q
      obtain ⟨e2, _⟩ := hok' _ _ q2
      rw [ha] at e
      cases e
      exact e2
  | .ok .next, h => exact False.elim h
  | .ok .brk, h => exact False.elim h
  | .ok .cont, h => exact False.elim h

/-- what the head leaves to the law's promise -/
theorem walkG {l : PySem.W.OpenLaw} {n k : Nat} {q : Program} {loose : List Str} {XP : (Str → Option Value) → Heap → Prop} {YP : World → Heap → Prop}
    {d : DefRec} {K : Params → PySem.W.Frag} {sp : World → Sp} {x : Str}
    (most : l.most = some n) (small : n ≤ sizeLine) (hdf : d.params.defaults = []) (room : Room k callerA)
    (hY : ∀ (w : World) (h : Heap), YP w h → (K w.params).In h)
    (F : ∀ (w : World) (mg : Str → Option Value) (fa : Addr) (h : Heap), (K w.params).In h → h.Ns mainGlobals mg → mg d.name = some (.ref fa) →
      ∃ fd : FuncData, (∀ (s : Shared) (u : Value), BindsTo s fd ⟨[u], []⟩ [(x, u)]) ∧
        ∀ base : Heap, (K w.params).In base → base.Ns mainGlobals mg → FnG l.prog w (K w.params) mg base CX0 k fa fd [x] (sp w))
    (promise : ∀ (w : World) (H : Hp) (a : Addr) (ns : List Int), ns.length ≤ n → Only H → SqL (K w.params) H a (ns.map V.int) →
      sp w [.ref a] H (fun v _ => v = .bl true) fun _ _ _ => False) :
    PySem.W.WalkO q loose XP YP l.row.toRowW d [] (fun f vs => PySem.call f vs) := by
  refine Att.attach_call most hdf fun w s₀ s₁ mg mb fa o pm cd doc a vs ns G Y ho hd hcd hmg hobj hints hlen hg => ?_
  have inK := hY w _ Y
  obtain ⟨fd, binds, hF⟩ := F w mg fa _ inK G.T.g hmg
  exact lawCall inK G.T.g G.T.b G.T.builtins G.T.nolimit hg hobj hints (Nat.le_trans hlen small) room hF binds
    fun H hO hS => promise w H a ns hlen hO hS
end My
set_option maxHeartbeats 4000000
/-! values that stand for data, and what repr makes of them -/
namespace My
open PySem PySem.Spec PyProof.Rows L2

mutual
/-- v stands for the datum d: an empty dict may be among it -/
inductive Dd (K : PySem.W.Frag) (H : Hp) : V → PyData → Prop
  | non : Dd K H .non .none
  | bl (b : Bool) : Dd K H (.bl b) (.bool b)
  | int (i : Int) : Dd K H (.int i) (.int i)
  | str (x : Str) : Dd K H (.str x) (.str x)
  | lst {a : Addr} {xs : List V} {ds : List PyData} : SqL K H a xs → Dds K H xs ds → Dd K H (.ref a) (.list ds)
  | tup {a : Addr} {xs : List V} {ds : List PyData} : SqT K H a xs → Dds K H xs ds → Dd K H (.ref a) (.tuple ds)
  | dct {a : Addr} : H a = some (.dK []) → Dd K H (.ref a) (.dict [])
inductive Dds (K : PySem.W.Frag) (H : Hp) : List V → List PyData → Prop
  | nil : Dds K H [] []
  | cons {v : V} {vs : List V} {d : PyData} {ds : List PyData} : Dd K H v d → Dds K H vs ds → Dds K H (v :: vs) (d :: ds)
end

/-! it stands as long as the tracked objects do -/
mutual
theorem Dd.ext {K : PySem.W.Frag} {H H' : Hp} (e : ∀ b o, H b = some o → H' b = some o) : ∀ (d : PyData) (v : V), Dd K H v d → Dd K H' v d
  | .none, _, h => by cases h; exact .non
  | .bool b, _, h => by cases h; exact .bl b
  | .int i, _, h => by cases h; exact .int i
  | .str x, _, h => by cases h; exact .str x
  | .list ds, _, h => by
    cases h with
    | lst hs ha => exact .lst (Same.seq e hs) (Dds.ext e ds _ ha)
  | .tuple ds, _, h => by
    cases h with
    | tup hs ha =>
      refine .tup ?_ (Dds.ext e ds _ ha)
      rcases hs with (h | ⟨o, h⟩) | h
      · exact .inl (.inl (e _ _ h))
      · exact .inl (.inr ⟨o, e _ _ h⟩)
      · exact .inr h
  | .dict kvs, _, h => by
    cases h with
    | dct h => exact .dct (e _ _ h)
theorem Dds.ext {K : PySem.W.Frag} {H H' : Hp} (e : ∀ b o, H b = some o → H' b = some o) : ∀ (ds : List PyData) (vs : List V), Dds K H vs ds → Dds K H' vs ds
  | [], _, h => by cases h; exact .nil
  | d :: ds, _, h => by
    cases h with
    | cons h1 h2 => exact .cons (Dd.ext e d _ h1) (Dds.ext e ds _ h2)
end

section
variable {X : Cx} {pins : List (Addr × Obj)} {σ : L2.St} {H : Hp} {s : Shared}
mutual
theorem Dd.reads (I : Inv X pins σ H s) : ∀ (d : PyData) (v : V) (u : Value), Dd X.K H v d → RelV v u →
    ∃ as, Reads s.heap u d as ∧ (d = .dict [] → sysModules ∉ as)
  | .none, _, _, h, r => by
    cases h
    cases r
    exact ⟨_, Reads.none, by simp⟩
  | .bool b, _, _, h, r => by
    cases h
    cases r
    exact ⟨_, Reads.bool b, by simp⟩
  | .int i, _, _, h, r => by
    cases h
    obtain ⟨t, rfl⟩ := r
    exact ⟨_, Reads.int i t, by simp⟩
  | .str x, _, _, h, r => by
    cases h
    obtain ⟨t, rfl⟩ := r
    exact ⟨_, Reads.str x t, by simp⟩
  | .list ds, _, _, h, r => by
    cases h with
    | lst hs ha =>
      cases r
      obtain ⟨its, rv, ⟨o, m, ho, hc, _, hd⟩, _⟩ := I.list hs
      obtain ⟨as, hr⟩ := Dds.reads I ds _ its ha rv
      exact ⟨_, Reads.list ho hc hd hr, fun z => by cases z⟩
  | .tuple ds, _, _, h, r => by
    cases h with
    | tup hs ha =>
      cases r
      obtain ⟨its, rv, ⟨o, ho, hc, n, hd⟩, _⟩ := I.tuple hs
      obtain ⟨as, hr⟩ := Dds.reads I ds _ its ha rv
      exact ⟨_, Reads.tuple ho hc hd hr, fun z => by cases z⟩
  | .dict kvs, _, _, h, r => by
    cases h with
    | @dct a h =>
      cases r
      obtain ⟨z, hne, vs, rel, dd⟩ := dk_of I.hok h
      cases rel
      obtain ⟨o, es, ep, ho, hx, hd, _, hes, _⟩ := dd
      have e0 : es.toList = [] := by
        cases q : es.toList with
        | nil => rfl
        | cons e r =>
          rw [q] at hes
          cases hes
      refine ⟨_, Reads.dict (kvs := []) ho hx.1 hd (by rw [e0]; exact .nil) (by rw [e0]; exact .nil), fun _ hm => ?_⟩
      have e1 : sysModules = a := by simpa using hm
      rw [e1] at hne
      simp at hne
theorem Dds.reads (I : Inv X pins σ H s) : ∀ (ds : List PyData) (vs : List V) (us : List Value), Dds X.K H vs ds → Vals vs us →
    ∃ as, ReadsAll s.heap us ds as
  | [], _, _, h, r => by
    cases h
    cases r
    exact ⟨_, ReadsAll.nil⟩
  | d :: ds, _, _, h, r => by
    cases h with
    | cons h1 h2 =>
      cases r with
      | cons r1 r2 =>
        obtain ⟨as, q1, _⟩ := Dd.reads I d _ _ h1 r1
        obtain ⟨bs, q2⟩ := Dds.reads I ds _ _ h2 r2
        exact ⟨_, ReadsAll.cons q1 q2⟩
end
mutual
theorem Dp.plain {K : PySem.W.Frag} {H : Hp} : ∀ (d : PyData) (v : V), Dp K H v d → d.hasDict = false
  | .none, _, _ => by simp only [PyData.hasDict]
  | .bool _, _, _ => by simp only [PyData.hasDict]
  | .int _, _, _ => by simp only [PyData.hasDict]
  | .str _, _, _ => by simp only [PyData.hasDict]
  | .list ds, _, h => by
    cases h with
    | lst hs ha =>
      simp only [PyData.hasDict]
      exact DpAll.plain ds _ ha
  | .tuple ds, _, h => by
    cases h with
    | tup hs ha =>
      simp only [PyData.hasDict]
      exact DpAll.plain ds _ ha
  | .dict _, _, h => by cases h
theorem DpAll.plain {K : PySem.W.Frag} {H : Hp} : ∀ (ds : List PyData) (vs : List V), DpAll K H vs ds → PyData.hasDictAll ds = false
  | [], _, _ => by simp only [PyData.hasDictAll]
  | d :: ds, _, h => by
    cases h with
    | cons h1 h2 => simp only [PyData.hasDictAll, Dp.plain d _ h1, DpAll.plain ds _ h2, Bool.or_self]
end
/-- what repr of a value asks: that it stands for a datum, without dicts or with -/
def rRepr (K : PySem.W.Frag) : List V → Hp → VK → Prop := fun xs H Q => ∃ v d, xs = [v] ∧ (Dp K H v d ∨ Dd K H v d ∧ (d.hasDict = false ∨ d = .dict [])) ∧
  d.showable = true ∧ d.shown.length ≤ sizeLine ∧ d.depth ≤ 64 ∧ Q (.str d.shown) H
theorem call_reprU (hg : X.A.guards = some []) (un : X.A.units + 200 < cLine) : CallR X (.builtin "repr") (rRepr X.K) := by
  intro pins s σ H xs us Q I r h
  obtain ⟨v, d, rfl, hd, sh, sz, dp, q⟩ := h
  obtain ⟨u, rfl, ru⟩ := vals1 r
  have rd : ∃ as, Reads s.heap u d as ∧ (d.hasDict = true → sysModules ∉ as) := by
    rcases hd with hd | hd
    · obtain ⟨as, q⟩ := Dp.reads I d v u hd ru
      exact ⟨as, q, fun z => by rw [Dp.plain d v hd] at z; cases z⟩
    · obtain ⟨as, q, n⟩ := Dd.reads I d v u hd.1 ru
      exact ⟨as, q, fun z => n (hd.2.resolve_left fun z2 => by rw [z2] at z; cases z)⟩
  obtain ⟨as, rd, nd⟩ := rd
  have base : ∀ {x : Str} {t' : Nat} {tk : Tok}, x = d.shown → EP X pins σ Q (.str x tk) { s with toks := t' } := fun {x t' tk} e => by
    subst e
    exact ⟨.str _, H, I.tok _, ⟨tk, rfl⟩, q⟩
  cases rd with
  | none => exact PySem.P.repr_of_none (base (by simp only [PyData.shown]))
  | bool b => exact PySem.P.repr_of_bool (base (by simp only [PyData.shown]))
  | int i t => exact PySem.P.repr_of_int (by simpa [PyData.showable] using sh) (base (by simp only [PyData.shown]))
  | str x t => exact PySem.P.repr_of_str (base (by simp only [PyData.shown])) (by simpa only [PyData.shown] using sz)
  | list h1 h2 h3 h4 =>
    exact repr_of_reads' (.list h1 h2 h3 h4) sh nd hg (by omega) (fun _ _ z => z)
      (fun h' u tk hk => ⟨.str _, H, I.kept (t' := tk) hk, ⟨u, rfl⟩, q⟩) sz
  | tuple h1 h2 h3 h4 =>
    exact repr_of_reads' (.tuple h1 h2 h3 h4) sh nd hg (by omega) (fun _ _ z => z)
      (fun h' u tk hk => ⟨.str _, H, I.kept (t' := tk) hk, ⟨u, rfl⟩, q⟩) sz
  | dict h1 h2 h3 h4 h5 =>
    exact repr_of_reads' (.dict h1 h2 h3 h4 h5) sh nd hg (by omega) (fun _ _ z => z)
      (fun h' u tk hk => ⟨.str _, H, I.kept (t' := tk) hk, ⟨u, rfl⟩, q⟩) sz

theorem call_repr {k : Nat} (hg : X.A.guards = some []) (hr : Room k X.A) : CallR X (.builtin "repr") (rRepr X.K) := call_reprU hg (by have := hr.un; omega)

/-- a written list, its address not that of sys.modules -/
def tLstB (t : TA) : TE := fun σ H Q => t σ H fun xs H1 => xs.length ≤ sizeLine ∧ ∀ p, H1 p = none → p ≠ sysModules → Q (.ref p) (upd H1 p (.lst xs))
theorem pe_lstB {es : List Expr} {t : TA} {pos : Pos} (h : PA X es t) : PE X (.List es pos) (tLstB t) := by
  refine ⟨fun pins s σ H Q I hq => ?_⟩
  refine wpAny_List_spliced (thn (h.run pos pins s σ H _ I hq) ?_)
  rintro us s1 ⟨xs, H1, I1, r, z, q⟩
  have new : H1 s1.heap.objs.size = none := I1.hok.fresh (Nat.le_refl _)
  refine ⟨by rw [← r.length]; exact z, .ref s1.heap.objs.size, upd H1 s1.heap.objs.size (.lst xs), ?_, rfl, q _ new (Nat.ne_of_gt I1.big)⟩
  exact I1.laid (t' := s1.toks) (fun b u e => Heap.get?_push_of_some _ e) (Nat.le_refl _) ⟨z, us, 0, r, Heap.get?_push_size _ rfl⟩
end
end My
set_option maxHeartbeats 4000000
/-! own exceptions over any built-in base, made by place or by name, kept as values -/
namespace My
open PySem PySem.W PySem.Calls PyProof.Rows PySem.HandSPX

section
variable {M : Model} {A : Around} {E : Value → Shared → Prop} {h : Heap} {g : Array GenState} {d : Drawn} {t : Nat} {os : OsState}
variable {nm q : Str} {C N : Addr} {bs bm bmB : List Value} {hdct : Bool} {sn : List Str} {sub : List Value} {ab : Bool} {col : Option Bool} {dd : Option Addr}
  {k0 k1 k2 k3 k5 : Option Value} {B newId initId : String} {rest : List Value} {kw : List (Str × Value)}

/-- the mro behind the own class: it has the base that makes, and is no AttributeError, no NameError -/
structure Makes (bm : List Value) (B : String) : Prop where
  base : bm.contains (.type B) = true
  noAttr : bm.contains (.type "AttributeError") = false
  noName : bm.contains (.type "NameError") = false

theorem checkNew (F : ExcBaseFacts B newId initId bmB) (m : Makes bm B) {Q : Unit → Shared → Prop}
    (hC : h.get? C = some (excClassObj nm q C N bs bm hdct sn sub ab col dd k0 k1 k2 k3 k5 newId)) (hq : Q () ⟨h, g, d, t, os⟩) :
    wpAny M A (checkBuiltinCall newId ⟨.ref C :: rest, kw⟩) Q E ⟨h, g, d, t, os⟩ := by
  have has : (Value.ref C :: bm).contains (.type B) = true := by rw [List.contains_cons, m.base, Bool.or_true]
  have star := F.noStar
  simp only [checkBuiltinCall, F.newKind, F.newSplit, F.newRow]
  repeat (first
    | refine wpAny_loadPart_at hC ?_
    | (refine wpAny_isSubtype_exc hC ?_; rw [has])
    | refine wpAny_staticBase_exc hC ?_
    | refine wpAny_madeBy_exc hC ?_
    | simp only [bne_self_eq_false, Bool.false_eq_true, if_false]
    | wp_step)
  exact hq
end

section
variable {prog : Program} {w : World} {A : Around} {E : Value → Shared → Prop} {R : Result → Shared → Prop} {h : Heap} {g : Array GenState} {d : Drawn} {t : Nat} {os : OsState}
variable {nm q : Str} {C N fI : Addr} {bs bm bmB : List Value} {hdct : Bool} {sn : List Str} {sub : List Value} {ab : Bool} {col : Option Bool} {dd : Option Addr}
  {k0 k1 k2 k3 k5 : Option Value} {B newId initId : String} {rest : List Value} {kw : List (Str × Value)}

/-- the bare exception, its arguments laid before it -/
def bare2 (h : Heap) (C : Addr) (rest : List Value) : Heap := (h.push (kdv_tup rest)).push (excO C h.objs.size)
theorem bare2_keeps {b : Addr} {o : Obj} (e : h.get? b = some o) : (bare2 h C rest).get? b = some o :=
  Heap.get?_push_of_some _ (Heap.get?_push_of_some _ e)
theorem bare2_at : (bare2 h C rest).get? (h.objs.size + 1) = some (excO C h.objs.size) := by
  unfold bare2
  heap_get

theorem newOwn (F : ExcBaseFacts B newId initId bmB) (m : Makes bm B) (small : rest.length ≤ sizeLine)
    (hC : h.get? C = some (excClassObj nm q C N bs bm hdct sn sub ab col dd k0 k1 k2 k3 k5 newId))
    (hq : R (.ok (.ret (.ref (h.objs.size + 1)))) ⟨bare2 h C rest, g, d, t, os⟩) :
    codeAny (model prog w) A (.builtin newId ⟨.ref C :: rest, kw⟩) R ⟨h, g, d, t, os⟩ := by
  have ends := F.ends
  have has : ∀ {X : String} {b : Bool}, bm.contains (.type X) = b → (Value.ref C :: bm).contains (.type X) = b := fun {X b} e => by
    rw [List.contains_cons, e]
    rfl
  have isB := has m.base
  have noA := has m.noAttr
  have noN := has m.noName
  refine codeAny_builtinAt F.entry ?_
  unfold Builtin.«BaseException.__new__»
  refine PySem.wpAt_bind ?_
  show PySem.wpAt _ _ _ (stack >>= _) _ _ _
  refine PySem.wpAt_bind (PySem.wpAt_stack fun p below => PySem.wpAt_of_wpAny ?_)
  wp_walk
  refine PySem.wpAt_of_wpAny ?_
  rw [F.owner]
  repeat (first
    | with_reducible refine wpAny_madeHere_exc F.canon hC ?_
    | with_reducible refine wpAny_loadPart_at hC ?_
    | (with_reducible refine wpAny_isSubtype_exc hC ?_; first | rw [isB] | rw [noA] | rw [noN])
    | wp_step)
  show R _ _
  rw [Heap.size_push]
  exact hq

theorem typeCallOwn (F : ExcBaseFacts B newId initId bmB) (m : Makes bm B) (small : rest.length ≤ sizeLine) {Q : Fin → Shared → Prop}
    (hC : h.get? C = some (excClassObj nm q C N bs bm hdct sn sub ab col dd k0 k1 k2 k3 k5 newId))
    (hi : Looks (model prog w) h (typeLookup (.ref C) "__init__") (some (.ref fI)))
    (hb : ∀ self, Looks (model prog w) h (bindSpecial (.ref fI) self) (.ref fI, [self]))
    (hq : codeAny (model prog w) A (.call (.ref fI) ⟨.ref (h.objs.size + 1) :: rest, kw⟩)
      (fun r s' => match r with
        | .ok (.ret v) => v = .none ∧ Q (.done (.ret (.ref (h.objs.size + 1)))) s'
        | .ok _ => False
        | .error e => E e s') ⟨bare2 h C rest, g, d, t, os⟩) :
    wpAny (model prog w) A (Builtin.«type.__call__» ⟨.ref C :: rest, kw⟩) Q E ⟨h, g, d, t, os⟩ := by
  repeat (first
    | with_reducible refine wpAny_loadPart_at hC ?_
    | with_reducible refine wpAny_madeBy_exc hC ?_
    | wp_step)
  refine codeAny_call_builtin_code (Code.quiet_builtin _ F.quiet) (checkNew F m hC ?_)
  refine newOwn F m small hC ?_
  show wpAny _ _ _ _ _ _
  have hC1 : (bare2 h C rest).get? C = _ := bare2_keeps hC
  have at1 : (bare2 h C rest).get? (h.objs.size + 1) = some (excO C h.objs.size) := bare2_at
  have own : (Value.ref C :: bm).contains (.ref C) = true := by simp
  have i1 := hi.keeps (h' := bare2 h C rest) fun b o e => bare2_keeps e
  have b1 := (hb (.ref (h.objs.size + 1))).keeps (h' := bare2 h C rest) fun b o e => bare2_keeps e
  unfold isInstance
  repeat (first
    | with_reducible refine wpAny_loadPart_at at1 ?_
    | (with_reducible refine wpAny_isSubtype_exc hC1 ?_; rw [own])
    | wp_step)
  show wpAny _ _ (typeLookup (.ref C) _) _ _ _
  refine i1.at ?_
  refine wpAny_holding (wpAny_bind (b1.at ?_))
  refine wpAny_bind (wpAny_call (codeAny_mono hq fun r s' z => ?_))
  match r, z with
  | .error e, z => exact z
  | .ok (.ret v), z =>
    obtain ⟨rfl, z⟩ := z
    first
      | exact wpAny_pure (wpAny_pure z)
      | (wp_walk; exact z)
  | .ok .next, z => exact z.elim
  | .ok .brk, z => exact z.elim
  | .ok .cont, z => exact z.elim

theorem callOwn (F : ExcBaseFacts B newId initId bmB) (m : Makes bm B) (small : rest.length ≤ sizeLine)
    (hC : h.get? C = some (excClassObj nm q C N bs bm hdct sn sub ab col dd k0 k1 k2 k3 k5 newId))
    (hi : Looks (model prog w) h (typeLookup (.ref C) "__init__") (some (.ref fI)))
    (hb : ∀ self, Looks (model prog w) h (bindSpecial (.ref fI) self) (.ref fI, [self]))
    (hq : codeAny (model prog w) (A.under (.builtin "type.__call__" ⟨.ref C :: rest, kw⟩)) (.call (.ref fI) ⟨.ref (h.objs.size + 1) :: rest, kw⟩)
      (InitBack (h.objs.size + 1) R) ⟨bare2 h C rest, g, d, t, os⟩) :
    codeAny (model prog w) A (.call (.ref C) ⟨rest, kw⟩) R ⟨h, g, d, t, os⟩ := by
  have f1 := tc_lookup
  have f2 := tc_bind (.ref C)
  have isType : (⟨h, g, d, t, os⟩ : Shared).TypeIs (.ref C) "type" := ⟨_, hC, rfl⟩
  refine codeAny_of_tree ?_
  show wpAny _ _ (callAny (.ref C) _) _ _ _
  repeat (any_goals (first | assumption | with_reducible refine wpAny_loadPart_at hC ?_ | wp_step))
  refine ⟨rfl, ?_⟩
  refine codeAny_call_builtin_at (Code.quiet_builtin _ (by decide +kernel)) entry_typeCall
    (wpAny_check_type_call_sub hC (typeCallOwn F m small hC hi hb ?_))
  refine codeAny_mono hq fun r s' z => ?_
  match r, z with
  | .error e, z => exact z
  | .ok (.ret v), z => exact z
  | .ok .next, z => exact z
  | .ok .brk, z => exact z
  | .ok .cont, z => exact z
end
end My
set_option maxHeartbeats 4000000
/-! self.f = v on own exceptions over any built-in base -/
namespace My
open PySem PySem.W PySem.Calls PyProof.Rows PySem.HandSPX PySem.OEX

/-- what the store asks of the class's mro -/
structure MroOk (l : List Value) : Prop where
  ne : l.isEmpty = false
  obj : l.contains (.type "object") = true
  pass : ∀ self : Value, refuseLoop self "__setattr__" l = pure ()
theorem MroOk.cons {C : Addr} {l : List Value} (m : MroOk l) : MroOk (.ref C :: l) :=
  ⟨rfl, by rw [List.contains_cons, m.obj, Bool.or_true], fun self => by rw [refuseLoop_ref]; exact m.pass self⟩
theorem mroValue : MroOk [.type "ValueError", .type "Exception", .type "BaseException", .type "object"] :=
  ⟨rfl, by decide +kernel, fun self => by kernel_rfl⟩
theorem mroKey : MroOk [.type "KeyError", .type "LookupError", .type "Exception", .type "BaseException", .type "object"] :=
  ⟨rfl, by decide +kernel, fun self => by kernel_rfl⟩
theorem mroRuntime : MroOk [.type "RuntimeError", .type "Exception", .type "BaseException", .type "object"] :=
  ⟨rfl, by decide +kernel, fun self => by kernel_rfl⟩

section
open Builtin Builtin.ObjectAttr
variable {prog : Program} {w : World} {A : Around} {E : Value → Shared → Prop} {R : Result → Shared → Prop} {hp : Heap} {g : Array GenState} {d : Drawn} {t : Nat} {os : OsState}
variable {K : W.Frag} {name : Str} {tk : Tok} {v : Value} {x C dx : Addr} {fv : Array Value} {cd : ClassData}

/-- the first attribute: the exception gets its dict -/
theorem storeNew (inK : K.In hp) (hx : hp.get? x = some { cls := .ref C, data := .fields fv }) (hcd : W.clsIn K C = some cd) (m : MroOk cd.mro)
    (hh : cd.hasDict = true) (no : W.findIn K (.ref C) name = some none)
    (hq : ∀ h' tk' dx, (∀ b o, b ≠ x → hp.get? b = some o → h'.get? b = some o) → hp.objs.size ≤ dx → dx ≠ x →
      h'.get? x = some { cls := .ref C, dict := some dx, data := .fields fv } → h'.Ns1 dx (fun y => if y = name then some v else none) →
      R (.ok (.ret .none)) ⟨h', g, d, tk', os⟩) :
    codeAny (model prog w) A (.call (.builtin "object.__setattr__") ⟨[.ref x, .str name tk, v], []⟩) R ⟨hp, g, d, t, os⟩ := by
  have inst : W.InstAt hp x { cls := .ref C, data := .fields fv } C none := ⟨hx, rfl, rfl, trivial⟩
  have SF := F.store_object
  have apart : x ≠ hp.objs.size := Nat.ne_of_lt (Heap.lt_size hx)
  have sub : W.Looks (model prog w) hp (isInstance (.ref x) (.type "object")) true :=
    inst.type.andThen (W.looks_mroIn inK (by
      unfold W.mroIn
      rw [hcd, Option.bind_some, if_neg (by rw [m.ne]; decide), m.obj]))
  refine codeAny_call_builtin SF.slot.plain SF.entry (@W.check_slot (model prog w) _ _ ⟨hp, g, d, t, os⟩ "object.__setattr__" "object" "__setattr__"
    (.ref x) [.str name tk, v] [] _ SF.kind SF.split sub (SF.args (.ref x) (.str name tk) v) ?_)
  have mroL : W.Looks (model prog w) hp (mroOf (.ref C)) cd.mro := (W.looks_clsIn inK hcd).andThen .now
  have taker : W.Looks (model prog w) hp (storeTaker? none) none := .now
  have clsL : W.Looks (model prog w) hp (classData C) cd := W.looks_clsIn inK hcd
  rw [W.osa_eq, refuse_eq]
  refine wpAny_bind (wpAny_bind (inst.type.at (wpAny_bind (mroL.at ?_))))
  rw [m.pass]
  refine wpAny_pure (wpAny_bind (inst.type.at (wpAny_bind ((W.looks_findIn inK no).at (wpAny_bind (taker.at ?_))))))
  show wpAny _ _ (storeInOwnDict (.ref x) (.ref C) (.str name tk) name v false) _ _ _
  obtain ⟨nm, bs, mro, ns, qn, hd, sn, sb, ab, col, del⟩ := cd
  dsimp only at hh
  subst hh
  unfold storeInOwnDict ownDictForStores
  repeat (first
    | with_reducible refine store_in_new ?_ ?_
    | with_reducible refine wpAny_loadPart_at hx ?_
    | with_reducible refine clsL.at ?_
    | wp_step)
  · exact ⟨_, #[], _, (Heap.get?_update_ne _ _ _ _ apart.symm).trans (Heap.get?_push_at rfl rfl), rfl, fun e he => absurd he (by simp), fun _ => rfl⟩
  · intro h' tk' hn' hs
    have hx1 : (hp.push { cls := .type "dict", data := .dict #[] }).get? x = some { cls := .ref C, data := .fields fv } := Heap.get?_push_of_some _ hx
    refine hq h' tk' hp.objs.size (fun b o hb ho => ?_) (Nat.le_refl _) apart.symm ?_ hn'
    · exact (hs.2 b (Nat.ne_of_lt (Heap.lt_size ho))).trans ((Heap.get?_update_ne _ _ _ _ hb).trans (Heap.get?_push_of_some _ ho))
    · exact (hs.2 x apart).trans (Heap.get?_update_self _ hx1 rfl)

/-- a further attribute -/
theorem storeMore {m0 : Str → Option Value} {nl : List Str} (inK : K.In hp) (hx : hp.get? x = some { cls := .ref C, dict := some dx, data := .fields fv })
    (hns : hp.Ns1 dx m0) (hw : Within m0 nl) (few : nl.length ≤ 1000) (hcd : W.clsIn K C = some cd) (m : MroOk cd.mro) (hh : cd.hasDict = true)
    (no : W.findIn K (.ref C) name = some none)
    (hq : ∀ h' tk', (∀ b o, b ≠ dx → hp.get? b = some o → h'.get? b = some o) → h'.Ns1 dx (fun y => if y = name then some v else m0 y) →
      R (.ok (.ret .none)) ⟨h', g, d, tk', os⟩) :
    codeAny (model prog w) A (.call (.builtin "object.__setattr__") ⟨[.ref x, .str name tk, v], []⟩) R ⟨hp, g, d, t, os⟩ := by
  obtain ⟨oD, esD, epD, hoD, hdD, _⟩ := hns.count hw
  have inst : W.InstAt hp x { cls := .ref C, dict := some dx, data := .fields fv } C (some oD) := ⟨hx, rfl, rfl, hoD⟩
  have SF := F.store_object
  have sub : W.Looks (model prog w) hp (isInstance (.ref x) (.type "object")) true :=
    inst.type.andThen (W.looks_mroIn inK (by
      unfold W.mroIn
      rw [hcd, Option.bind_some, if_neg (by rw [m.ne]; decide), m.obj]))
  refine codeAny_call_builtin SF.slot.plain SF.entry (@W.check_slot (model prog w) _ _ ⟨hp, g, d, t, os⟩ "object.__setattr__" "object" "__setattr__"
    (.ref x) [.str name tk, v] [] _ SF.kind SF.split sub (SF.args (.ref x) (.str name tk) v) ?_)
  have mroL : W.Looks (model prog w) hp (mroOf (.ref C)) cd.mro := (W.looks_clsIn inK hcd).andThen .now
  have taker : W.Looks (model prog w) hp (storeTaker? none) none := .now
  have clsL : W.Looks (model prog w) hp (classData C) cd := W.looks_clsIn inK hcd
  rw [W.osa_eq, refuse_eq]
  refine wpAny_bind (wpAny_bind (inst.type.at (wpAny_bind (mroL.at ?_))))
  rw [m.pass]
  refine wpAny_pure (wpAny_bind (inst.type.at (wpAny_bind ((W.looks_findIn inK no).at (wpAny_bind (taker.at ?_))))))
  show wpAny _ _ (storeInOwnDict (.ref x) (.ref C) (.str name tk) name v false) _ _ _
  obtain ⟨nm, bs, mro, ns, qn, hd, sn, sb, ab, col, del⟩ := cd
  dsimp only at hh
  subst hh
  unfold storeInOwnDict ownDictForStores
  repeat (first
    | with_reducible refine store_in_old hns hw few ?_
    | with_reducible refine wpAny_loadPart_at hx ?_
    | with_reducible refine clsL.at ?_
    | wp_step)
  intro h' tk' hn' hs
  exact hq h' tk' (fun b o hb ho => (hs.2 b hb).trans ho) hn'
end
end My
set_option maxHeartbeats 4000000
/-! own exceptions made as values, by place or by name; their __init__ walked as a def -/
namespace My
open PySem PySem.Spec PyProof.Rows L2

/-- what the written part says of an own exception class, whatever built-in it stands on -/
structure ExG (K : PySem.W.Frag) (C : Addr) : Prop where
  cls : ∃ nm q N bs bm sn sub ab col dd k0 k1 k2 k3 k5 B newId initId bmB,
    K.lookup C = some (excClassObj nm q C N bs bm true sn sub ab col dd k0 k1 k2 k3 k5 newId) ∧ ExcBaseFacts B newId initId bmB ∧ Makes bm B ∧ MroOk bm
  sa : PySem.W.findIn K (.ref C) "__setattr__" = some (some (.builtin "object.__setattr__"))
  kC : PySem.W.keepIn K (.ref C) = true

section
variable {X : Cx} {pins : List (Addr × Obj)} {σ : L2.St} {H : Hp} {s : Shared} {a C dx : Addr} {f : Str} {y : V} {u : Value} {fs : List (Str × V)}
  {Q : Unit → Shared → Prop} {E : Value → Shared → Prop} {A : Around}
/-- a heap may be read without one object that is new -/
theorem Inv.grow {h' : Heap} {b : Addr} {o : HO} {t' : Nat} {G : Heap} (I : Inv X pins σ H { s with heap := G }) (k : ∀ c u, G.get? c = some u → h'.get? c = some u)
    (gone : G.get? b = none) (hn : H b = none) (new : ObjOk X.prog X.w (upd H b o) h' b o) : Inv X pins σ (upd H b o) { s with heap := h', toks := t' } :=
  L2.Inv.laidN (s := { s with heap := G }) I k gone hn new

theorem selfNew (T : ExG X.K C) (I : Inv X pins σ H s) (e : H a = some (exo a C none)) (no : PySem.W.findIn X.K (.ref C) f = some none) (ry : L2.RelV y u)
    (h : ∀ dx s', H dx = none → dx ≠ a → Inv X pins σ (upd (upd H a (exo a C (some dx))) dx (exd dx [(f, y)])) s' → Q () s') :
    wpAny (model X.prog X.w) A (setAttr (.ref a) f u) Q E s := by
  obtain ⟨nm, q, N, bs, bm, sn, sub, ab, col, dd, k0, k1, k2, k3, k5, B, newId, initId, bmB, hC, _, _, mro⟩ := T.cls
  have hcl : PySem.W.clsIn X.K C = some { name := nm, bases := bs, mro := .ref C :: bm, ns := N, qualname := q, hasDict := true, slotNames := sn, subclasses := sub, abstract := ab, collection := col, hasDel := false } := by
    unfold PySem.W.clsIn
    rw [hC]
    all_goals rfl
  obtain ⟨t1, ho⟩ := exo_at I.hok e
  have I0 := I
  obtain ⟨hp, g, d, t, os⟩ := s
  refine PySem.W.set_plain I.kIn (ox := { cls := .ref C, dict := none, data := .fields #[.ref t1, .none, .none, .none, .bool false, .none] }) (od := none) ⟨ho, rfl, rfl, trivial⟩ T.sa ?_
  refine storeNew I.kIn ho hcl mro.cons rfl no (fun h' tk' dx k dn dne hx hn => ?_)
  have hnd : H dx = none := I.hok.fresh dn
  obtain ⟨G, g1, g2⟩ := restrict h' fun b => decide (b ≠ dx)
  have same : ∀ b, b ≠ dx → G.get? b = h'.get? b := fun b hb => g1 b (decide_eq_true hb)
  have gone : G.get? dx = none := g2 dx (by simp)
  have sub' : ∀ c o, G.get? c = some o → h'.get? c = some o := fun c o z => by
    by_cases hc : c = dx
    · rw [hc, gone] at z
      cases z
    · rw [← same c hc]
      exact z
  have old : ∀ c o, hp.get? c = some o → c ≠ dx := fun c o z => Nat.ne_of_lt (Nat.lt_of_lt_of_le (Heap.lt_size z) dn)
  have hxG : G.get? a = some { cls := .ref C, dict := some dx, data := .fields #[.ref t1, .none, .none, .none, .bool false, .none] } := by
    rw [same a (Ne.symm dne)]
    exact hx
  have I1 : Inv X pins σ (upd H a (exo a C (some dx))) { (⟨hp, g, d, t, os⟩ : Shared) with heap := G, toks := tk' } :=
    I0.write (t' := tk') (x := a) (e := a) (o := exo a C (some dx)) (by rw [e]; exact True.intro) (.inl rfl)
      (fun b o hb z => by rw [same b (old b o z)]; exact k b o hb z) ⟨_, hxG⟩ (exo_ok hxG)
  have hn1 : upd H a (exo a C (some dx)) dx = none := by
    rw [upd_ne dne]
    exact hnd
  exact h dx _ hnd dne (L2.Inv.laidN (s := { (⟨hp, g, d, t, os⟩ : Shared) with heap := G, toks := tk' }) (t' := tk') I1 sub' gone hn1
    (exd_ok hn (relO_put (fs := []) ry fun g => True.intro)))

theorem selfMore (T : ExG X.K C) (I : Inv X pins σ H s) (e : H a = some (exo a C (some dx))) (ed : H dx = some (exd dx fs)) (few : fs.length ≤ 900)
    (no : PySem.W.findIn X.K (.ref C) f = some none) (ry : L2.RelV y u) (h : ∀ s', Inv X pins σ (upd H dx (exd dx ((f, y) :: fs))) s' → Q () s') :
    wpAny (model X.prog X.w) A (setAttr (.ref a) f u) Q E s := by
  obtain ⟨nm, q, N, bs, bm, sn, sub, ab, col, dd, k0, k1, k2, k3, k5, B, newId, initId, bmB, hC, _, _, mro⟩ := T.cls
  have hcl : PySem.W.clsIn X.K C = some { name := nm, bases := bs, mro := .ref C :: bm, ns := N, qualname := q, hasDict := true, slotNames := sn, subclasses := sub, abstract := ab, collection := col, hasDel := false } := by
    unfold PySem.W.clsIn
    rw [hC]
    all_goals rfl
  obtain ⟨t1, ho⟩ := exo_at I.hok e
  obtain ⟨mA, hns, rel⟩ := exd_at I.hok ed
  have hw := within_of rel
  have I0 := I
  obtain ⟨hp, g, d, t, os⟩ := s
  obtain ⟨oD, _, _, hoD, _, _⟩ := hns.count hw
  refine PySem.W.set_plain I.kIn (ox := { cls := .ref C, dict := some dx, data := .fields #[.ref t1, .none, .none, .none, .bool false, .none] }) (od := some oD) ⟨ho, rfl, rfl, hoD⟩ T.sa ?_
  refine storeMore I.kIn ho hns hw (by rw [List.length_map]; omega) hcl mro.cons rfl no (fun h' tk' k hn => ?_)
  have hd : ∃ o, h'.get? dx = some o := by
    obtain ⟨o, _, _, e', _⟩ := hn
    exact ⟨o, e'⟩
  exact h _ (I0.write (t' := tk') (x := dx) (e := dx) (o := exd dx ((f, y) :: fs)) (by rw [ed]; exact True.intro) (.inl rfl) k hd (exd_ok hn (relO_put ry rel)))
end

/-- self.f = e -/
def tSelf (K : PySem.W.Frag) (f : Str) (to te : TE) : TS := fun D σ H => te σ H fun y H1 => to σ H1 fun x H2 => ∃ a C : Addr, x = .ref a ∧ ExG K C ∧ PySem.W.findIn K (.ref C) f = some none ∧
  ((H2 a = some (exo a C none) ∧ ∀ dx, H2 dx = none → dx ≠ a → D.nx σ (upd (upd H2 a (exo a C (some dx))) dx (exd dx [(f, y)]))) ∨
    ∃ (dx : Addr) (fs : List (Str × V)), H2 a = some (exo a C (some dx)) ∧ H2 dx = some (exd dx fs) ∧ fs.length ≤ 900 ∧ D.nx σ (upd H2 dx (exd dx ((f, y) :: fs))))
section
variable {X : Cx} {o e : Expr} {to te : TE} {f : Str} {p' pos : Pos}
theorem ps_self (ho : PE X o to) (he : PE X e te) (hs : swapsWith e (some (.Attribute o f p')) pos.line X.env = pure false := by rfl) :
    PS X (.Assign [.Attribute o f p'] e pos) (tSelf X.K f to te) := by
  refine ⟨fun pins s σ H D I h => ?_⟩
  refine plainObj_wpAny_Assign_Attribute (thn (he.run pins s σ H _ I h) ?_) hs
  rintro v s1 ⟨y, H1, I1, r1, q1⟩
  refine thn (ho.run pins s1 σ H1 _ I1 q1) ?_
  rintro u s2 ⟨x, H2, I2, r2, a, C, ex, T, no, q⟩
  subst ex
  obtain rfl : u = Value.ref a := r2
  rcases q with ⟨ea, q⟩ | ⟨dx, fs, ea, ed, few, q⟩
  · exact selfNew T I2 ea no r1 fun dx s' n ne J => ⟨σ, _, J, q dx n ne⟩
  · exact selfMore T I2 ea ed few no r1 fun s' J => ⟨σ, _, J, q⟩
end

/-! ### C(e, ..), C(.., k = v) as a value -/
def tMadeK (C : Addr) (n m : Nat) (sp : Sp) (gV : List V → List V → List V) (t tk : TA) : TE := fun σ H Q => t σ H fun vs H1 => tk σ H1 fun zs H2 => vs.length = n ∧ zs.length = m ∧ n ≤ 1000 ∧
  ∀ a, H2 a = none → sp (gV (.ref a :: vs) zs) (upd H2 a (exo a C none)) (fun v H3 => v = .non ∧ Q (.ref a) H3) (fun _ _ _ => False)
section
variable {X : Cx} {CX : CXT} {k n : Nat} {fI C : Addr} {fd : FuncData} {ps ks : List Str} {sp : Sp} {x : Str} {p pos : Pos} {e : Expr} {es : List Expr} {kws : List Keyword}
  {t tk : TA} {g : List Value → List Value → List Value} {gV : List V → List V → List V}
theorem runMade {pins : List (Addr × Obj)} {σ : L2.St} {H : Hp} {s : Shared} {Q : VK} {us ws : List Value} {vs zs : List V} (T : ExG X.K C)
    (iC : PySem.W.findIn X.K (.ref C) "__init__" = some (some (.ref fI))) (tI : PySem.W.typeIn X.K (.ref fI) = some (.type "function"))
    (F : FnOk X.prog X.w X.K X.mg X.base CX k fI fd ps sp) (hr : Room (k + 1) X.A) (hb : KBn X.K fd ps (n + 1) ks g gV) (hx : Passes CX X (fun _ _ _ => False))
    (I : Inv X pins σ H s) (r : Vals vs us) (rz : Vals zs ws) (l1 : vs.length = n) (l2 : zs.length = ks.length) (few : n ≤ 1000)
    (h : ∀ a, H a = none → sp (gV (.ref a :: vs) zs) (upd H a (exo a C none)) (fun v H3 => v = .non ∧ Q (.ref a) H3) (fun _ _ _ => False)) :
    wpAny (model X.prog X.w) X.A (call (.ref C) us (ks.zip ws)) (EP X pins σ Q) X.xe s := by
  obtain ⟨nm, q, N, bs, bm, sn, sub, ab, col, dd, k0, k1, k2, k3, k5, B, newId, initId, bmB, hC, FB, mk, _⟩ := T.cls
  obtain ⟨hp, gg, dr, tok, os⟩ := s
  have sz : hp.objs.size ≤ hp.objs.size + 1 := Nat.le_succ _
  have hq := h (hp.objs.size + 1) (I.hok.fresh sz)
  have I2 : Inv X pins σ (upd H (hp.objs.size + 1) (exo (hp.objs.size + 1) C none)) ⟨bare2 hp C us, gg, dr, tok, os⟩ :=
    I.laid (t' := tok) (a := hp.objs.size + 1) (o := exo (hp.objs.size + 1) C none) (h' := bare2 hp C us) (fun b o z => bare2_keeps z) sz (exo_ok bare2_at)
  have r1 : Vals (V.ref (hp.objs.size + 1) :: vs) (Value.ref (hp.objs.size + 1) :: us) := .cons rfl r
  have r2 := hb.rel r1 rz
  have n1 : (Value.ref (hp.objs.size + 1) :: us).length = n + 1 := by
    rw [List.length_cons, ← r.length, l1]
  have small : us.length ≤ sizeLine := by
    rw [← Paired.length r, l1, sizeLine_eq]
    omega
  refine wpAny_call (callOwn FB mk small (I.kIn _ _ hC) (PySem.W.looks_findIn I.kIn iC) (fun self => PySem.W.bind_fn I.kIn self tI)
    (codeAny_mono (F.run _ X.stack _ _ ⟨Value.ref (hp.objs.size + 1) :: us, ks.zip ws⟩ (g (Value.ref (hp.objs.size + 1) :: us) ws) _ _ (fun _ _ _ => False)
      (hr.make C us (ks.zip ws)) (I2.env0.make C us (ks.zip ws)) (hb.to _ (Value.ref (hp.objs.size + 1) :: us) ws I2.kIn n1 (rz.length.symm.trans l2)) r2 hq) fun r s' hq' => ?_))
  match r, hq' with
  | .error e, hq' => exact hx pins σ _ _ e s' I2 hq'
  | .ok (.ret u), hq' =>
    obtain ⟨v, H', I3, rv, ev, q3⟩ := I2.after hq'
    subst ev
    exact ⟨rv, ⟨V.ref (hp.objs.size + 1), H', I3, rfl, q3⟩⟩
  | .ok .next, hq' => exact False.elim hq'
  | .ok .brk, hq' => exact False.elim hq'
  | .ok .cont, hq' => exact False.elim hq'

theorem pe_madeK0 (T : ExG X.K C) (iC : PySem.W.findIn X.K (.ref C) "__init__" = some (some (.ref fI))) (tI : PySem.W.typeIn X.K (.ref fI) = some (.type "function"))
    (F : FnOk X.prog X.w X.K X.mg X.base CX k fI fd ps sp) (hr : Room (k + 1) X.A) (hg : Gl X x) (hm : X.mg x = some (.ref C)) (hb : KBn X.K fd ps 1 ks g gV)
    (hx : Passes CX X (fun _ _ _ => False)) (hkw : PK X kws tk) (hall : (backToKw pos (keywordEach kws X.env)).all (·.1.isSome) = true := by rfl)
    (hks : (backToKw pos (keywordEach kws X.env)).filterMap (·.1) = ks := by rfl) (hdb : (x == ("__debug__" : Str)) = false := by decide)
    (hpl : ((backTo pos (starEach [] X.env)).any (·.1) || (backToKw pos (keywordEach kws X.env)).any (·.1.isNone)) = false := by rfl) :
    PE X (.Call (.Name x p) [] kws pos) (tMadeK C 0 ks.length sp gV tNil tk) := by
  refine ⟨fun pins s σ H Q I h => ?_⟩
  refine wpAny_Call_Name_kw (ld_glob I hg hm ?_ hdb)
  refine PySem.W.callWith_KW0 (h₀ := X.base) I.ok.mod.kin T.kC hall ?_ hpl
  refine thn (hkw.run pos pins s σ H _ I h) ?_
  rintro ws s2 ⟨zs, H2, I2, rz, l1, l2, l3, q2⟩
  refine ⟨I2.kIn, ?_⟩
  rw [hks]
  exact runMade (us := []) (vs := []) T iC tI F hr hb hx I2 .nil rz rfl l2 l3 q2

theorem pe_madeK (T : ExG X.K C) (iC : PySem.W.findIn X.K (.ref C) "__init__" = some (some (.ref fI))) (tI : PySem.W.typeIn X.K (.ref fI) = some (.type "function"))
    (F : FnOk X.prog X.w X.K X.mg X.base CX k fI fd ps sp) (hr : Room (k + 1) X.A) (hg : Gl X x) (hm : X.mg x = some (.ref C)) (hb : KBn X.K fd ps (n + 1) ks g gV)
    (hx : Passes CX X (fun _ _ _ => False)) (ha : PA X (e :: es) t) (hkw : PK X kws tk) (hall : (backToKw pos (keywordEach kws X.env)).all (·.1.isSome) = true := by rfl)
    (hks : (backToKw pos (keywordEach kws X.env)).filterMap (·.1) = ks := by rfl) (hdb : (x == ("__debug__" : Str)) = false := by decide)
    (he : starEach (e :: es) X.env = (false, eval e X.env) :: starEach es X.env := by rfl)
    (hpl : ((backTo pos (starEach (e :: es) X.env)).any (·.1) || (backToKw pos (keywordEach kws X.env)).any (·.1.isNone)) = false := by rfl) :
    PE X (.Call (.Name x p) (e :: es) kws pos) (tMadeK C n ks.length sp gV t tk) := by
  refine ⟨fun pins s σ H Q I h => ?_⟩
  refine wpAny_Call_Name_kw (ld_glob I hg hm ?_ hdb)
  refine PySem.W.callWith_KW (h₀ := X.base) I.ok.mod.kin T.kC hall (thn (ha.run pos pins s σ H _ I h) ?_) hpl he
  rintro us s1 ⟨vs, H1, I1, r, q⟩
  refine thn (hkw.run pos pins s1 σ H1 _ I1 q) ?_
  rintro ws s2 ⟨zs, H2, I2, rz, l1, l2, l3, q2⟩
  refine ⟨I2.kIn, ?_⟩
  rw [hks]
  exact runMade T iC tI F hr hb hx I2 r rz l1 l2 l3 q2
end
end My
set_option maxHeartbeats 4000000
/-! own exceptions as values: an attribute read, isinstance asked -/
namespace My
open PySem PySem.Spec PyProof.Rows L2

/-- what the class says of attributes read and of isinstance -/
structure ExR (K : PySem.W.Frag) (C : Addr) : Prop where
  ga : PySem.W.findIn K (.ref C) "__getattribute__" = some (some (.builtin "BaseException.__getattribute__"))
  gg : PySem.W.findIn K (.ref C) "__getattr__" = some none
  exC : PySem.W.subIn K (.ref C) (.type "BaseException") = some true
  hd : PySem.W.hasDictIn K C = true
  ha : PySem.W.findIn K (.ref C) "__class__" = some (some (.builtin "object.__class__"))
  hn : PySem.W.specialIn K (.builtin "object.__class__") "__get__" = some (some (.builtin "getset_descriptor.__get__"))
  ht : PySem.W.takesIn K (.builtin "object.__class__") = some true
  hm : PySem.W.mroIn K C (.type "object") = some true

/-- e.f, e an exception that has it -/
def tExAt (K : PySem.W.Frag) (f : Str) (te : TE) : TE := fun σ H Q => te σ H fun x H1 => ∃ (a C dx : Addr) (fs : List (Str × V)) (v : V), x = .ref a ∧ ExR K C ∧
  PySem.W.findIn K (.ref C) f = some none ∧ H1 a = some (exo a C (some dx)) ∧ H1 dx = some (exd dx fs) ∧ fs.lookup f = some v ∧ Q v H1
section
variable {X : Cx} {e : Expr} {te : TE} {f : Str} {pos : Pos}
theorem pe_exAt (he : PE X e te) (hb : attributeBase e f X.env (eval e X.env) = eval e X.env := by rfl) : PE X (.Attribute e f pos) (tExAt X.K f te) := by
  refine ⟨fun pins s σ H Q I h => ?_⟩
  refine attr_of hb (thn (he.run pins s σ H _ I h) ?_)
  rintro u s1 ⟨x, H1, I1, rx, a, C, dx, fs, v, ex, R, no, ea, ed, el, q⟩
  subst ex
  obtain rfl : u = Value.ref a := rx
  obtain ⟨t1, ho⟩ := exo_at I1.hok ea
  obtain ⟨mA, hns, rel⟩ := exd_at I1.hok ed
  obtain ⟨od, hod, hl⟩ := lookIn_ns hns
  obtain ⟨u', hu, ru⟩ := RelO.some_of (v := v) (o := mA f) (by rw [← el]; exact rel f)
  have J : PySem.W.InstAt s1.heap a { cls := .ref C, dict := some dx, data := .fields #[.ref t1, .none, .none, .none, .bool false, .none] } C (some od) := ⟨ho, rfl, rfl, hod⟩
  exact HandSPX.exc_get I1.kIn J R.ga R.gg R.exC (PySem.W.findObj_own R.hd no rfl (by rw [hl, hu])) (handed_of ru) ⟨v, H1, I1.tok _, ru, q⟩

/-- isinstance(e, c), e an exception kept as a value -/
def rIsX (K : PySem.W.Frag) : List V → Hp → VK → Prop := fun xs H Q => ∃ (a D : Addr) (d : Option Addr) (c : V) (cv : Value) (b : Bool), xs = [.ref a, c] ∧ ExR K D ∧
  H a = some (exo a D d) ∧ (∀ dx, d = some dx → ∃ fs, H dx = some (exd dx fs)) ∧ ClsV c cv ∧ PySem.W.kitOne K (.ref D) cv = some b ∧ Q (.bl b) H
theorem call_isX : CallR X (.builtin "isinstance") (rIsX X.K) := by
  intro pins s σ H xs us Q I r h
  obtain ⟨a, D, d, c, cv, b, rfl, R, ea, ed, hc, e, q⟩ := h
  obtain ⟨u1, u2, rfl, r1, r2⟩ := vals2 r
  obtain rfl : u1 = Value.ref a := r1
  have e2 := hc.eq r2
  subst e2
  obtain ⟨t1, ho⟩ := exo_at I.hok ea
  obtain ⟨cdD, hcD, _⟩ := PySem.W.any_some R.hd
  have isCls : (PySem.W.clsIn X.K D).isSome = true := by
    rw [hcD]
    rfl
  have done : ∀ tk, EP X pins σ Q (.bool b) { s with toks := tk } := fun tk => ⟨.bl b, H, I.tok _, rfl, q⟩
  cases d with
  | none =>
    have J : PySem.W.InstAt s.heap a { cls := .ref D, dict := none, data := .fields #[.ref t1, .none, .none, .none, .bool false, .none] } D none := ⟨ho, rfl, rfl, trivial⟩
    exact PySem.W.kia_one (PySem.W.kitx_exc isCls R.ga R.gg R.exC R.ha R.hn R.ht R.hm) I.kIn J e (fun z => nomatch z) done
  | some dx =>
    obtain ⟨fs, ed'⟩ := ed dx rfl
    obtain ⟨mA, hns, rel⟩ := exd_at I.hok ed'
    obtain ⟨od, hod, hl⟩ := lookIn_ns hns
    have J : PySem.W.InstAt s.heap a { cls := .ref D, dict := some dx, data := .fields #[.ref t1, .none, .none, .none, .bool false, .none] } D (some od) := ⟨ho, rfl, rfl, hod⟩
    exact PySem.W.kia_one (PySem.W.kitx_exc isCls R.ga R.gg R.exC R.ha R.hn R.ht R.hm) I.kIn J e (fun z => nomatch z) done
end
end My
set_option maxHeartbeats 4000000
/-! the __init__ of own exceptions, by their shapes -/
namespace My
open PySem PySem.Spec PyProof.Rows L2

theorem visOf {N ps : List Str} {sc : Scope} (S : FnScope N ps sc) {x : Str} (h : x ∈ ps) : Vis sc x := by
  rcases S.par x h with k | k
  · exact .inl k
  · exact .inr (.inl k)

/-- one attribute: self.f = f -/
def spOne (C : Addr) (f : Str) : Sp := fun vs H Q _ => ∃ (a : Addr) (v : V), vs = [.ref a, v] ∧ H a = some (exo a C none) ∧
  ∀ dx, H dx = none → dx ≠ a → Q .non (upd (upd H a (exo a C (some dx))) dx (exd dx [(f, v)]))
/-- two: self.f = f, self.g = g -/
def spTwo (C : Addr) (f g : Str) : Sp := fun vs H Q _ => ∃ (a : Addr) (v u : V), vs = [.ref a, v, u] ∧ H a = some (exo a C none) ∧
  ∀ dx, H dx = none → dx ≠ a → Q .non (upd (upd (upd H a (exo a C (some dx))) dx (exd dx [(f, v)])) dx (exd dx [(g, u), (f, v)]))
/-- none: B.__init__(self, a text) -/
def spNil (C : Addr) : Sp := fun vs H Q _ => ∃ a : Addr, vs = [.ref a] ∧ H a = some (exo a C none) ∧ Q .non H

section
variable {P : Program} {w : World} {K : PySem.W.Frag} {mg : Str → Option Value} {base : Heap} {st : Stmt} {qual f g : Str} {C fI : Addr} {fd : FuncData}
theorem ok_one (F : Fun K "__init__" qual st fI fd) (S : FnScope ["self", f] ["self", f] (defScope st))
    (hb : ∃ p1 p2 p3 p4, defBody st = [.Assign [.Attribute (.Name "self" p1) f p2] (.Name f p3) p4])
    (hf : (f == ("__debug__" : Str)) = false) (hf2 : (f == ("__classdict__" : Str)) = false) (T : ExG K C) (no : PySem.W.findIn K (.ref C) f = some none) :
    FnOk P w K mg base CX0 1 fI fd ["self", f] (spOne C f) := by
  obtain ⟨p1, p2, p3, p4, hb⟩ := hb
  refine F.ok S (fun vs H Q E h => ?_) (fun cdv A outer s H vs Q E hr h => ?_)
  · obtain ⟨a, v, rfl, _⟩ := h
    rfl
  · obtain ⟨a, v, rfl, ha, k⟩ := h
    rw [hb]
    refine ⟨_, pss_one (ps_self (pv 0 (hv := visOf S (by simp))) (pv 1 (hv := visOf S (by simp)) (hd := hf) (hcd := hf2))), ?_⟩
    exact ⟨v, rfl, .ref a, rfl, a, C, rfl, T, no, .inl ⟨ha, fun dx n ne => k dx n ne⟩⟩
theorem ok_two (F : Fun K "__init__" qual st fI fd) (S : FnScope ["self", f, g] ["self", f, g] (defScope st))
    (hb : ∃ p1 p2 p3 p4 q1 q2 q3 q4, defBody st = [.Assign [.Attribute (.Name "self" p1) f p2] (.Name f p3) p4, .Assign [.Attribute (.Name "self" q1) g q2] (.Name g q3) q4])
    (hf : (f == ("__debug__" : Str)) = false) (hf2 : (f == ("__classdict__" : Str)) = false) (hg : (g == ("__debug__" : Str)) = false) (hg2 : (g == ("__classdict__" : Str)) = false)
    (T : ExG K C) (no : PySem.W.findIn K (.ref C) f = some none) (no2 : PySem.W.findIn K (.ref C) g = some none) :
    FnOk P w K mg base CX0 1 fI fd ["self", f, g] (spTwo C f g) := by
  obtain ⟨p1, p2, p3, p4, q1, q2, q3, q4, hb⟩ := hb
  refine F.ok S (fun vs H Q E h => ?_) (fun cdv A outer s H vs Q E hr h => ?_)
  · obtain ⟨a, v, u, rfl, _⟩ := h
    rfl
  · obtain ⟨a, v, u, rfl, ha, k⟩ := h
    rw [hb]
    refine ⟨_, pss_cons (ps_self (pv 0 (hv := visOf S (by simp))) (pv 1 (hv := visOf S (by simp)) (hd := hf) (hcd := hf2)))
      (pss_one (ps_self (pv 0 (hv := visOf S (by simp))) (pv 2 (hv := visOf S (by simp)) (hd := hg) (hcd := hg2)))), ?_⟩
    refine ⟨v, rfl, .ref a, rfl, a, C, rfl, T, no, .inl ⟨ha, fun dx n ne => ?_⟩⟩
    exact ⟨u, rfl, .ref a, rfl, a, C, rfl, T, no2, .inr ⟨dx, _, by rw [upd_ne (Ne.symm ne), upd_same], upd_same, by simp, k dx n ne⟩⟩
end

/-! ### RuntimeError.__init__(self, ..) -/
theorem typRE : typeOf (.type "RuntimeError") = pure (.type "type") := by kernel_rfl
structure ExRt (K : PySem.W.Frag) (C : Addr) : Prop where
  cls : ∃ nm q N bs sn sub ab col dd k0 k1 k2 k3 k5, K.lookup C = some (excClassObj nm q C N bs [.type "RuntimeError", .type "Exception", .type "BaseException", .type "object"] true sn sub ab col dd k0 k1 k2 k3 k5 "RuntimeError.__new__")
section
variable {X : Cx} {pins : List (Addr × Obj)} {σ : L2.St} {H : Hp} {s : Shared} {a C : Addr} {A : Around} {E : Value → Shared → Prop}
theorem initRt {us : List Value} {Q : Value → Shared → Prop} (T : ExRt X.K C) (I : Inv X pins σ H s) (e : H a = some (exo a C none)) (hl : us.length ≤ sizeLine)
    (h : ∀ s', Inv X pins σ H s' → Q .none s') : wpAny (model X.prog X.w) A (call (.builtin "RuntimeError.__init__") (.ref a :: us)) Q E s := by
  obtain ⟨nm, q, N, bs, sn, sub, ab, col, dd, k0, k1, k2, k3, k5, hC⟩ := T.cls
  obtain ⟨t1, ho⟩ := exo_at I.hok e
  have I0 := I
  obtain ⟨hp, g, d, t, os⟩ := s
  refine wpAny_call (PySem.HandSPX.init_base F.excBase_RuntimeError (fun Y => rfl) (I.kIn _ _ hC) ho hl fun h' t2 k hx => ?_)
  have J := I0.write (t' := t) (x := a) (e := a) (o := exo a C none) (by rw [e]; exact True.intro) (.inl rfl) k ⟨_, hx⟩ (exo_ok hx)
  have eu : upd H a (exo a C none) = H := by
    funext b
    by_cases hb : b = a
    · rw [hb, upd_same, e]
    · rw [upd_ne hb]
  rw [eu] at J
  exact h _ J
end
def tRtI (K : PySem.W.Frag) (ta : TA) : TE := fun σ H Q => ta σ H fun vs H1 => ∃ (a C : Addr) (ws : List V), vs = .ref a :: ws ∧ ws.length ≤ 1000 ∧ ExRt K C ∧ H1 a = some (exo a C none) ∧ Q .non H1
section
variable {X : Cx} {e : Expr} {es : List Expr} {ta : TA} {p1 p2 pos : Pos}
theorem pe_rtinit {pl : Sem Bool} (hg : Gl X "RuntimeError") (hm : X.mg "RuntimeError" = none)
    (vV : PySem.W.findCls X.K (.type "RuntimeError") (.type "type") "__init__" = some (.val (.builtin "RuntimeError.__init__"))) (ha : PA X (e :: es) ta)
    (hc : eval (.Call (.Attribute (.Name "RuntimeError" p1) "__init__" p2) (e :: es) [] pos) X.env = (do
      let ov ← eval (.Name "RuntimeError" p1) X.env
      standAt p2.atName
      let (f, first) ← holding [ov] (getMethod ov "__init__" pl)
      callWith pos f first (backTo pos (starEach (e :: es) X.env)) (backToKw pos (keywordEach [] X.env))) := by rfl)
    (he : starEach (e :: es) X.env = (false, eval e X.env) :: starEach es X.env := by rfl) (hpl : (backTo pos (starEach es X.env)).any (·.1) = false := by rfl) :
    PE X (.Call (.Attribute (.Name "RuntimeError" p1) "__init__" p2) (e :: es) [] pos) (tRtI X.K ta) := by
  refine ⟨fun pins s σ H Q I h => ?_⟩
  refine PySem.W.methodCall_KW (ld_blt I hg hm PyProof.Rows.Boot.«RuntimeError» ?_ (by decide) (by decide)) hc
  obtain ⟨m, fr⟩ := I.fr
  refine PySem.W.method_type fr I.ok.mod.kin typRE (by decide +kernel) vV (by decide +kernel) ?_
  show wpAny _ _ (callWith pos (Value.builtin "RuntimeError.__init__") [] (backTo pos (starEach (e :: es) X.env)) []) _ _ _
  refine PyProof.Rows.callWith_method1 (thn (ha.run pos pins _ σ H _ (I.tok _) h) ?_) he hpl
  rintro us s1 ⟨vs, H1, I1, r1, a, C, ws, ev, few, T, ea, q⟩
  subst ev
  cases r1 with
  | @cons _ u0 _ ur ra rw' =>
    obtain rfl : u0 = Value.ref a := ra
    have small : ur.length ≤ sizeLine := by
      rw [← Paired.length rw', sizeLine_eq]
      omega
    exact initRt T I1 ea small fun s' J => ⟨.non, H1, J, rfl, q⟩
end
end My
set_option maxHeartbeats 4000000
/-! short words for own exceptions made as values -/
namespace My
open PySem PySem.Spec PyProof.Rows L2 Evl

theorem peImp {X : Cx} {e : Expr} {t t' : TE} (h : PE X e t) (k : ∀ σ H Q, t' σ H Q → t σ H Q) : PE X e t' := ⟨fun pins s σ H Q I q => h.run pins s σ H Q I (k σ H Q q)⟩

section
variable {K : PySem.W.Frag} {fd : FuncData} {ps : List Str}
theorem kbPos (b : Binds K fd ps []) : KBn K fd ps ps.length [] (fun us _ => us) (fun vs _ => vs) where
  to := fun s us ws inK l1 _ => by
    have q := b s us inK (by rw [List.append_nil]; exact l1)
    rw [List.append_nil] at q
    exact q
  rel := fun r _ => r
end

/-- a class whose __init__ keeps one field -/
structure Mkr (P : Program) (w : World) (K : PySem.W.Frag) (mg : Str → Option Value) (base : Heap) (C : Addr) (f : Str) : Prop where
  ex : ∃ (fI : Addr) (fd : FuncData), ExG K C ∧ PySem.W.findIn K (.ref C) "__init__" = some (some (.ref fI)) ∧ PySem.W.typeIn K (.ref fI) = some (.type "function") ∧
    FnOk P w K mg base CX0 1 fI fd ["self", f] (spOne C f) ∧ KBn K fd ["self", f] 2 [] (fun us _ => us) (fun vs _ => vs) ∧
    KBn K fd ["self", f] 1 [f] (fun us ws => us ++ ws) (fun vs zs => vs ++ zs)
/-- a class whose __init__ keeps two -/
structure Mkr2 (P : Program) (w : World) (K : PySem.W.Frag) (mg : Str → Option Value) (base : Heap) (C : Addr) (f g : Str) : Prop where
  ex : ∃ (fI : Addr) (fd : FuncData), ExG K C ∧ PySem.W.findIn K (.ref C) "__init__" = some (some (.ref fI)) ∧ PySem.W.typeIn K (.ref fI) = some (.type "function") ∧
    FnOk P w K mg base CX0 1 fI fd ["self", f, g] (spTwo C f g) ∧ KBn K fd ["self", f, g] 3 [] (fun us _ => us) (fun vs _ => vs) ∧
    KBn K fd ["self", f, g] 1 [f, g] (fun us ws => us ++ ws) (fun vs zs => vs ++ zs) ∧
    KBn K fd ["self", f, g] 1 [g, f] (fun us ws => us ++ ws.reverse) (fun vs zs => vs ++ zs.reverse)
/-- a class whose __init__ keeps none -/
structure Mkr0 (P : Program) (w : World) (K : PySem.W.Frag) (mg : Str → Option Value) (base : Heap) (C : Addr) : Prop where
  ex : ∃ (fI : Addr) (fd : FuncData), ExG K C ∧ PySem.W.findIn K (.ref C) "__init__" = some (some (.ref fI)) ∧ PySem.W.typeIn K (.ref fI) = some (.type "function") ∧
    FnOk P w K mg base CX0 1 fI fd ["self"] (spNil C) ∧ KBn K fd ["self"] 1 [] (fun us _ => us) (fun vs _ => vs)

/-- what comes of it: a new exception of C, its dict told -/
def EvX (te : TE) (σ : L2.St) (H : Hp) (C : Addr) (fs : List (Str × V)) : Prop := ∀ H1, Ex H H1 → ∀ Q : VK,
  (∀ a dx H2, H1 a = none → Ex H1 H2 → H2 a = some (exo a C (some dx)) → H2 dx = some (exd dx fs) → Q (.ref a) H2) → te σ H1 Q
def EvX0 (te : TE) (σ : L2.St) (H : Hp) (C : Addr) : Prop := ∀ H1, Ex H H1 → ∀ Q : VK, (∀ a H2, H1 a = none → Ex H1 H2 → H2 a = some (exo a C none) → Q (.ref a) H2) → te σ H1 Q

section
variable {σ : L2.St} {H : Hp} {C a : Addr} {f g : Str} {v u : V} {te tu : TE} {Q : VK} {E : XK}
theorem spOneOf (ha : H a = none) (q : ∀ dx H2, Ex H H2 → H2 a = some (exo a C (some dx)) → H2 dx = some (exd dx [(f, v)]) → Q (.ref a) H2) :
    spOne C f [.ref a, v] (upd H a (exo a C none)) (fun w H3 => w = .non ∧ Q (.ref a) H3) E := by
  refine ⟨a, v, rfl, upd_same, fun dx n ne => ⟨rfl, ?_⟩⟩
  rw [upd_upd]
  rw [upd_ne ne] at n
  have n1 : upd H a (exo a C (some dx)) dx = none := by
    rw [upd_ne ne]
    exact n
  exact q dx _ ((Ex.new ha).trans (Ex.new n1)) (by rw [upd_ne (Ne.symm ne), upd_same]) upd_same
theorem spTwoOf (ha : H a = none) (q : ∀ dx H2, Ex H H2 → H2 a = some (exo a C (some dx)) → H2 dx = some (exd dx [(g, u), (f, v)]) → Q (.ref a) H2) :
    spTwo C f g [.ref a, v, u] (upd H a (exo a C none)) (fun w H3 => w = .non ∧ Q (.ref a) H3) E := by
  refine ⟨a, v, u, rfl, upd_same, fun dx n ne => ⟨rfl, ?_⟩⟩
  rw [upd_upd, upd_upd]
  rw [upd_ne ne] at n
  have n1 : upd H a (exo a C (some dx)) dx = none := by
    rw [upd_ne ne]
    exact n
  exact q dx _ ((Ex.new ha).trans (Ex.new n1)) (by rw [upd_ne (Ne.symm ne), upd_same]) upd_same
theorem ex_one (h : Ev te σ H v) : EvX (tMadeK C 1 0 (spOne C f) (fun vs _ => vs) (tCons te tNil) tNil) σ H C [(f, v)] := fun H1 e Q q =>
  h H1 e _ fun H2 e2 => ⟨rfl, rfl, by decide, fun a ha => spOneOf ha fun dx H3 e3 h1 h2 => q a dx H3 (fresh_back e2 ha) (e2.trans e3) h1 h2⟩
theorem ex_oneK (h : Ev te σ H v) : EvX (tMadeK C 0 1 (spOne C f) (fun vs zs => vs ++ zs) tNil (tCons te tNil)) σ H C [(f, v)] := fun H1 e Q q =>
  h H1 e _ fun H2 e2 => ⟨rfl, rfl, by decide, fun a ha => spOneOf ha fun dx H3 e3 h1 h2 => q a dx H3 (fresh_back e2 ha) (e2.trans e3) h1 h2⟩
theorem ex_two (h : Ev te σ H v) (h' : Ev tu σ H u) : EvX (tMadeK C 2 0 (spTwo C f g) (fun vs _ => vs) (tCons te (tCons tu tNil)) tNil) σ H C [(g, u), (f, v)] := fun H1 e Q q =>
  h H1 e _ fun H2 e2 => h' H2 (e.trans e2) _ fun H3 e3 => ⟨rfl, rfl, by decide, fun a ha => spTwoOf ha fun dx H4 e4 h1 h2 => q a dx H4 (fresh_back (e2.trans e3) ha) ((e2.trans e3).trans e4) h1 h2⟩
theorem ex_twoK (h : Ev te σ H v) (h' : Ev tu σ H u) : EvX (tMadeK C 0 2 (spTwo C f g) (fun vs zs => vs ++ zs) tNil (tCons te (tCons tu tNil))) σ H C [(g, u), (f, v)] := fun H1 e Q q =>
  h H1 e _ fun H2 e2 => h' H2 (e.trans e2) _ fun H3 e3 => ⟨rfl, rfl, by decide, fun a ha => spTwoOf ha fun dx H4 e4 h1 h2 => q a dx H4 (fresh_back (e2.trans e3) ha) ((e2.trans e3).trans e4) h1 h2⟩
theorem ex_twoR (h : Ev te σ H v) (h' : Ev tu σ H u) : EvX (tMadeK C 0 2 (spTwo C f g) (fun vs zs => vs ++ zs.reverse) tNil (tCons tu (tCons te tNil))) σ H C [(g, u), (f, v)] := fun H1 e Q q =>
  h' H1 e _ fun H2 e2 => h H2 (e.trans e2) _ fun H3 e3 => ⟨rfl, rfl, by decide, fun a ha => spTwoOf ha fun dx H4 e4 h1 h2 => q a dx H4 (fresh_back (e2.trans e3) ha) ((e2.trans e3).trans e4) h1 h2⟩
theorem ex_nil : EvX0 (tMadeK C 0 0 (spNil C) (fun vs _ => vs) tNil tNil) σ H C := fun H1 e Q q =>
  ⟨rfl, rfl, by decide, fun a ha => ⟨a, rfl, upd_same, rfl, q a _ ha (Ex.new ha) upd_same⟩⟩
end

section
variable {X : Cx} {C : Addr} {x f g : Str} {e d : Expr} {te tu : TE} {p pos kp kq : Pos}
theorem passN : Passes CX0 X (fun _ _ _ => False) := fun _ _ _ _ _ _ _ z => z.elim
/-- C(e) -/
theorem pe_mk1 (M : Mkr X.prog X.w X.K X.mg X.base C f) (hr : Room 2 X.A) (hg : Gl X x) (hm : X.mg x = some (.ref C)) (he : PE X e te) (hdb : (x == ("__debug__" : Str)) = false := by decide)
    (hs : starEach [e] X.env = (false, eval e X.env) :: starEach [] X.env := by rfl) :
    PE X (.Call (.Name x p) [e] [] pos) (tMadeK C 1 0 (spOne C f) (fun vs _ => vs) (tCons te tNil) tNil) := by
  obtain ⟨fI, fd, T, iC, tI, F, b0, b1⟩ := M.ex
  refine pe_madeK (n := 1) (ks := []) T iC tI F hr hg hm b0 passN (pa_cons he pa_nil hs) pk_nil rfl rfl hdb hs ?_
  rw [hs]
  rfl
/-- C(f = e) -/
theorem pe_mk1K (M : Mkr X.prog X.w X.K X.mg X.base C f) (hr : Room 2 X.A) (hg : Gl X x) (hm : X.mg x = some (.ref C)) (he : PE X e te) (hdb : (x == ("__debug__" : Str)) = false := by decide) :
    PE X (.Call (.Name x p) [] [⟨some f, e, kp⟩] pos) (tMadeK C 0 1 (spOne C f) (fun vs zs => vs ++ zs) tNil (tCons te tNil)) := by
  obtain ⟨fI, fd, T, iC, tI, F, b0, b1⟩ := M.ex
  exact pe_madeK0 (ks := [f]) T iC tI F hr hg hm b1 passN (pk_cons he pk_nil) rfl rfl hdb rfl
/-- C(e, d) -/
theorem pe_mk2 (M : Mkr2 X.prog X.w X.K X.mg X.base C f g) (hr : Room 2 X.A) (hg : Gl X x) (hm : X.mg x = some (.ref C)) (he : PE X e te) (hd : PE X d tu) (hdb : (x == ("__debug__" : Str)) = false := by decide)
    (hs : starEach [e, d] X.env = (false, eval e X.env) :: starEach [d] X.env := by rfl) (hs2 : starEach [d] X.env = (false, eval d X.env) :: starEach [] X.env := by rfl) :
    PE X (.Call (.Name x p) [e, d] [] pos) (tMadeK C 2 0 (spTwo C f g) (fun vs _ => vs) (tCons te (tCons tu tNil)) tNil) := by
  obtain ⟨fI, fd, T, iC, tI, F, b0, b1, b2⟩ := M.ex
  refine pe_madeK (n := 2) (ks := []) T iC tI F hr hg hm b0 passN (pa_cons he (pa_cons hd pa_nil hs2) hs) pk_nil rfl rfl hdb hs ?_
  rw [hs, hs2]
  rfl
/-- C(f = e, g = d) -/
theorem pe_mk2K (M : Mkr2 X.prog X.w X.K X.mg X.base C f g) (hr : Room 2 X.A) (hg : Gl X x) (hm : X.mg x = some (.ref C)) (he : PE X e te) (hd : PE X d tu) (hdb : (x == ("__debug__" : Str)) = false := by decide) :
    PE X (.Call (.Name x p) [] [⟨some f, e, kp⟩, ⟨some g, d, kq⟩] pos) (tMadeK C 0 2 (spTwo C f g) (fun vs zs => vs ++ zs) tNil (tCons te (tCons tu tNil))) := by
  obtain ⟨fI, fd, T, iC, tI, F, b0, b1, b2⟩ := M.ex
  exact pe_madeK0 (ks := [f, g]) T iC tI F hr hg hm b1 passN (pk_cons he (pk_cons hd pk_nil)) rfl rfl hdb rfl
/-- C(g = d, f = e) -/
theorem pe_mk2R (M : Mkr2 X.prog X.w X.K X.mg X.base C f g) (hr : Room 2 X.A) (hg : Gl X x) (hm : X.mg x = some (.ref C)) (he : PE X e te) (hd : PE X d tu) (hdb : (x == ("__debug__" : Str)) = false := by decide) :
    PE X (.Call (.Name x p) [] [⟨some g, d, kq⟩, ⟨some f, e, kp⟩] pos) (tMadeK C 0 2 (spTwo C f g) (fun vs zs => vs ++ zs.reverse) tNil (tCons tu (tCons te tNil))) := by
  obtain ⟨fI, fd, T, iC, tI, F, b0, b1, b2⟩ := M.ex
  exact pe_madeK0 (ks := [g, f]) T iC tI F hr hg hm b2 passN (pk_cons hd (pk_cons he pk_nil)) rfl rfl hdb rfl
/-- C() -/
theorem pe_mk0 (M : Mkr0 X.prog X.w X.K X.mg X.base C) (hr : Room 2 X.A) (hg : Gl X x) (hm : X.mg x = some (.ref C)) (hdb : (x == ("__debug__" : Str)) = false := by decide) :
    PE X (.Call (.Name x p) [] [] pos) (tMadeK C 0 0 (spNil C) (fun vs _ => vs) tNil tNil) := by
  obtain ⟨fI, fd, T, iC, tI, F, b0⟩ := M.ex
  exact pe_madeK0 (ks := []) T iC tI F hr hg hm b0 passN pk_nil rfl rfl hdb rfl
end
end My
set_option maxHeartbeats 4000000
/-! what repr, attributes, comparisons and enumerate come to, in the words of Evl -/
namespace My
open PySem PySem.Spec PyProof.Rows L2 Evl

/-- v stands for d, and d can be shown in short -/
structure Gd (K : PySem.W.Frag) (H : Hp) (v : V) (d : PyData) : Prop where
  dd : Dd K H v d
  sh : d.showable = true
  sz : d.shown.length ≤ 2000
  dp : d.depth ≤ 10
  nd : d.hasDict = false ∨ d = .dict []
section
variable {K : PySem.W.Frag} {H H' : Hp} {σ : L2.St} {v x y : V} {d : PyData} {te ta tb : TE}
theorem Gd.ext (g : Gd K H v d) (e : Ex H H') : Gd K H' v d := ⟨Dd.ext e d v g.dd, g.sh, g.sz, g.dp, g.nd⟩
theorem ev_repr (h : Ev te σ H v) (g : Gd K H v d) : Ev (tCB (rRepr K) (tCons te tNil)) σ H (.str d.shown) := fun H1 e Q q =>
  h H1 e _ fun H2 e2 => ⟨v, d, rfl, .inr ⟨(g.ext (e.trans e2)).dd, g.nd⟩, g.sh, Nat.le_trans g.sz (by decide), Nat.le_trans g.dp (by decide), q H2 e2⟩
/-- repr of a list that is written there -/
theorem ev_reprL {ta : TA} {vs : List V} {ds : List PyData} (h : EvA ta σ H vs) (hd : Dds K H vs ds) (hz : vs.length ≤ 1000) (sh : (PyData.list ds).showable = true) (sz : (PyData.list ds).shown.length ≤ 10000) (dp : (PyData.list ds).depth ≤ 30) (nd : (PyData.list ds).hasDict = false) :
    Ev (tCB (rRepr K) (tCons (tLstB ta) tNil)) σ H (.str (PyData.list ds).shown) := fun H1 e Q q =>
  h H1 e _ fun H2 e2 => ⟨sz_of (by omega), fun p hp np => by
    have eN : Ex H2 (upd H2 p (.lst vs)) := Ex.new hp
    exact ⟨.ref p, .list ds, rfl, .inr ⟨.lst (SqL.of upd_same) (Dds.ext ((e.trans e2).trans eN) ds vs hd), .inl nd⟩, sh, Nat.le_trans sz (by decide), Nat.le_trans dp (by decide), q _ (e2.trans eN)⟩⟩
theorem ev_exAt {a C dx : Addr} {f : Str} {fs : List (Str × V)} (h : Ev te σ H (.ref a)) (R : ExR K C) (no : PySem.W.findIn K (.ref C) f = some none)
    (h1 : H a = some (exo a C (some dx))) (h2 : H dx = some (exd dx fs)) (el : fs.lookup f = some v) : Ev (tExAt K f te) σ H v := fun H1 e Q q =>
  h H1 e _ fun H2 e2 => ⟨a, C, dx, fs, v, rfl, R, no, e2 _ _ (e _ _ h1), e2 _ _ (e _ _ h2), el, q H2 e2⟩
theorem rv_neSame (h1 : ∀ H', Ex H H' → Dp K H' x d) (h2 : ∀ H', Ex H H' → Dp K H' y d) (s : SeqAt.shaped d = true) : RV (rNeD K) x y H (.bl false) := fun H1 e Q q =>
  ⟨d, d, h1 H1 e, h2 H1 e, s, s, by
    rw [PySem.SeqAt.eqv_refl d (PySem.SeqAt.canLay_of_shaped s)]
    exact q H1 (Ex.refl H1)⟩
theorem rv_eqSame (h1 : ∀ H', Ex H H' → Dp K H' x d) (h2 : ∀ H', Ex H H' → Dp K H' y d) (s : SeqAt.shaped d = true) : RV (rEqD K) x y H (.bl true) := fun H1 e Q q =>
  ⟨d, d, h1 H1 e, h2 H1 e, s, s, by
    rw [PySem.SeqAt.eqv_refl d (PySem.SeqAt.canLay_of_shaped s)]
    exact q H1 (Ex.refl H1)⟩
theorem dpBools : ∀ (bs : List Bool), DpAll K H (bs.map V.bl) (bs.map PyData.bool)
  | [] => .nil
  | b :: r => .cons (.bl b) (dpBools r)
theorem dpInts : ∀ (ns : List Int), DpAll K H (ns.map V.int) (ns.map PyData.int)
  | [] => .nil
  | b :: r => .cons (.int b) (dpInts r)
theorem dp_bools {p : Addr} {bs : List Bool} (h : H p = some (.lst (bs.map V.bl))) : Dp K H (.ref p) (.list (bs.map PyData.bool)) := .lst (SqL.of h) (dpBools bs)
theorem dp_ints {p : Addr} {ns : List Int} (h : H p = some (.lst (ns.map V.int))) : Dp K H (.ref p) (.list (ns.map PyData.int)) := .lst (SqL.of h) (dpInts ns)
theorem ev_min2 {i j : Int} (ha : Ev ta σ H (.int i)) (hb : Ev tb σ H (.int j)) : Ev (tCB (fun xs H Q => ∃ i j, xs = [.int i, .int j] ∧ Q (.int (if j < i then j else i)) H) (tCons ta (tCons tb tNil))) σ H (.int (if j < i then j else i)) := fun H1 e Q q =>
  ha H1 e _ fun H2 e2 => hb H2 (e.trans e2) _ fun H3 e3 => ⟨i, j, rfl, q H3 (e2.trans e3)⟩
end

/-- for i, x in enumerate(a list that stands) -/
theorem for_enum {K : PySem.W.Frag} {a : Addr} {xs : List V} {g : TG} {tb : TS} {D : Ends} {σ : L2.St} {H : Hp} (Pv : Nat → L2.St → Hp → Prop) (h0 : Pv 0 σ H) (hl : ∀ i σ H, i ≤ xs.length → Pv i σ H → SqL K H a xs)
    (hs : ∀ i x σ H T, xs[i]? = some x → Pv i σ H → H T = none → g (.ref T) σ (upd H T (.tup [.int (i : Nat), x])) fun σ2 H2 => tb { D with nx := Pv (i + 1), ct := Pv (i + 1), bk := D.nx } σ2 H2) (hd : ∀ σ H, Pv xs.length σ H → D.nx σ H) :
    ∃ W : Nat → Nat → L2.St → Hp → Prop, (∃ m, W 0 m σ H) ∧ ∀ i m σ H, W i m σ H →
      ((Ite K a).stop i H ∧ D.nx σ H) ∨ ((Ite K a).go i H ∧ ∃ N : L2.St → Hp → Prop, (∀ σ' H', N σ' H' → ∃ m', m' < m ∧ W (i + 1) m' σ' H') ∧
        ∀ x H', (Ite K a).yld i H x H' → g x σ H' fun σ2 H2 => tb { D with nx := N, ct := N, bk := D.nx } σ2 H2) := by
  refine ⟨fun i m σ H => m = xs.length - i ∧ i ≤ xs.length ∧ Pv i σ H, ⟨xs.length, by simp, Nat.zero_le _, h0⟩, ?_⟩
  rintro i m σ H ⟨rfl, hi, p⟩
  have q := hl i σ H hi p
  by_cases lt : i < xs.length
  · refine .inr ⟨⟨xs, xs[i], q, by simp [lt]⟩, Pv (i + 1), fun σ' H' p' => ⟨xs.length - (i + 1), by omega, rfl, lt, p'⟩, ?_⟩
    rintro x H' ⟨T, y, rfl, hT, rfl, hy⟩
    exact hs i y σ H T (hy xs q) p hT
  · have e : i = xs.length := by omega
    subst e
    exact .inl ⟨⟨xs, q, Nat.le_refl _⟩, hd σ H p⟩
end My
namespace My
open PySem PySem.Spec PyProof.Rows L2 Evl
/-- a def of the module, its promise, as a constant -/
structure Df (P : Program) (w : World) (K : PySem.W.Frag) (mg : Str → Option Value) (base : Heap) (x : Str) (ps : List Str) (k : Nat) (sp : Sp) : Prop where
  ex : ∃ (f : Addr) (fd : FuncData), mg x = some (.ref f) ∧ PySem.W.keepIn K (.ref f) = true ∧ FnOk P w K mg base CX0 k f fd ps sp ∧ Binds K fd ps []
theorem pe_df {X : Cx} {x : Str} {ps : List Str} {k : Nat} {sp : Sp} {e : Expr} {es : List Expr} {t : TA} {p pos : Pos} (D : Df X.prog X.w X.K X.mg X.base x ps k sp) (hr : Room k X.A) (hg : Gl X x) (ha : PA X (e :: es) t)
    (hdb : (x == ("__debug__" : Str)) = false := by decide) (he : starEach (e :: es) X.env = (false, eval e X.env) :: starEach es X.env := by rfl) (hpl : (backTo pos (starEach es X.env)).any (·.1) = false := by rfl) :
    PE X (.Call (.Name x p) (e :: es) [] pos) (tCall sp [] E0 t) := by
  obtain ⟨f, fd, hm, hk, F, b⟩ := D.ex
  exact pe_call F hr hg hm hk b .nil pass0 ha hdb he hpl
section
variable {σ : L2.St} {H : Hp} {ta tb : TE} {xs : List V}
theorem el_rep {k : Int} (ha : EvL ta σ H xs) (hb : ∀ H1, Ex H H1 → Ev tb σ H1 (.int k)) (h : -(2 ^ 63) ≤ k ∧ k < 2 ^ 63) (z : xs.length * k.toNat ≤ 100000) : EvL (tOp rRep ta tb) σ H (List.replicate k.toNat xs).flatten := fun H1 e Q q =>
  ha H1 e _ fun l H2 _ e2 h2 => hb H2 (e.trans e2) H2 (Ex.refl H2) _ fun H3 e3 =>
    ⟨l, k, xs, rfl, rfl, e3 l _ h2, h.1, h.2, sz_of z, fun r hr => q r _ (fresh_back (e2.trans e3) hr) ((e2.trans e3).trans (Ex.new hr)) upd_same⟩
end
end My
namespace My
open PySem PySem.Spec PyProof.Rows L2 Evl
/-- a row of new exceptions of one class, all with the same fields -/
def EvXr (C : Addr) (ta : TA) (σ : L2.St) (H : Hp) (fs : List (Str × V)) (n : Nat) : Prop := ∀ H1, Ex H H1 → ∀ Q : List V → Hp → Prop,
  (∀ (as : List Addr) (H2 : Hp), Ex H1 H2 → as.length = n → (∀ (m : Nat) (a : Addr), as[m]? = some a → ∃ dx, H2 a = some (exo a C (some dx)) ∧ H2 dx = some (exd dx fs)) → Q (as.map V.ref) H2) → ta σ H1 Q
section
variable {C : Addr} {te : TE} {ta : TA} {σ : L2.St} {H : Hp} {fs : List (Str × V)} {n : Nat} {K : PySem.W.Frag} {tu tz : TS} {D : Ends} {j : Nat}
theorem exr_nil : EvXr C tNil σ H fs 0 := fun H1 e Q q => q [] H1 (Ex.refl H1) rfl fun m a h => by simp at h
theorem exr_cons (h : EvX te σ H C fs) (hr : EvXr C ta σ H fs n) : EvXr C (tCons te ta) σ H fs (n + 1) := fun H1 e Q q =>
  h H1 e _ fun a dx H2 _ e2 h1 h2 => hr H2 (e.trans e2) _ fun bs H3 e3 hl x => q (a :: bs) H3 (e2.trans e3) (by rw [List.length_cons, hl]) fun k b hb => by
    cases k with
    | zero =>
      have z : a = b := by simpa using hb
      subst z
      exact ⟨dx, e3 _ _ h1, e3 _ _ h2⟩
    | succ k => exact x k b (by simpa using hb)
/-- for e in [C(..), C(..)] -/
theorem s_forX (h : EvXr C ta σ H fs n) (hn : n ≤ 1000) (S : L2.St → Prop) (s0 : S σ)
    (hs : ∀ a dx σ' H', Ex H H' → H' a = some (exo a C (some dx)) → H' dx = some (exd dx fs) → S σ' → ∀ N : L2.St → Hp → Prop, (∀ σ2 H2, Ex H' H2 → S σ2 → N σ2 H2) →
      tu { D with nx := N, ct := N, bk := D.nx } (σ'.set j (some (.ref a))) H')
    (hd : ∀ σ' H', Ex H H' → S σ' → D.nx σ' H') : tFor (iList K (tLst ta)) (gName j) tu D σ H :=
  h H (Ex.refl H) _ fun as H1 e1 hl x => ⟨by rw [List.length_map, hl]; exact sz_of (by omega), fun L nL => ⟨L, rfl, ⟨_, SqL.of upd_same⟩,
    for_list (K := K) (a := L) (xs := as.map V.ref) (fun _ σ' H' => Ex (upd H1 L (.lst (as.map V.ref))) H' ∧ S σ') ⟨Ex.refl _, s0⟩ (fun _ σ' H' _ q => ex_l q.1 (SqL.of upd_same))
      (fun m v σ' H' hv q => by
        obtain ⟨a, ha, rfl⟩ : ∃ a, as[m]? = some a ∧ v = .ref a := by
          rw [List.getElem?_map] at hv
          cases z : as[m]? with
          | none =>
            rw [z] at hv
            cases hv
          | some u =>
            rw [z] at hv
            exact ⟨u, rfl, (Option.some.inj hv).symm⟩
        obtain ⟨dx, h1, h2⟩ := x m a ha
        have eN : Ex H1 (upd H1 L (.lst (as.map V.ref))) := Ex.new nL
        exact hs a dx σ' H' ((e1.trans eN).trans q.1) (q.1 _ _ (eN _ _ h1)) (q.1 _ _ (eN _ _ h2)) q.2 _ fun σ2 H2 e2 s2 => ⟨q.1.trans e2, s2⟩)
      fun σ' H' q => hd σ' H' ((e1.trans (Ex.new nL)).trans q.1) q.2⟩⟩
theorem q_forX (h : EvXr C ta σ H fs n) (hn : n ≤ 1000) (S : L2.St → Prop) (s0 : S σ)
    (hs : ∀ a dx σ' H', Ex H H' → H' a = some (exo a C (some dx)) → H' dx = some (exd dx fs) → S σ' → ∀ N : L2.St → Hp → Prop, (∀ σ2 H2, Ex H' H2 → S σ2 → N σ2 H2) →
      tu { D with nx := N, ct := N, bk := tz D } (σ'.set j (some (.ref a))) H')
    (hd : ∀ σ' H', Ex H H' → S σ' → tz D σ' H') : tSeq (tFor (iList K (tLst ta)) (gName j) tu) tz D σ H := s_forX (D := { D with nx := tz D }) h hn S s0 hs hd
end
end My
set_option maxHeartbeats 4000000
/-! evaluation told in data: which datum a value stands for, not where it lies -/
namespace My
open PySem PySem.Spec PyProof.Rows L2 Evl
/-- the class of a datum -/
def tyD : PyData → String
  | .none => "NoneType"
  | .bool _ => "bool"
  | .int _ => "int"
  | .str _ => "str"
  | .list _ => "list"
  | .tuple _ => "tuple"
  | .dict _ => "dict"
theorem Dd.ty {K : PySem.W.Frag} {H : Hp} {v : V} {d : PyData} (h : Dd K H v d) : TyX K H v (.type (tyD d)) := by
  cases h with
  | non => exact .base .non
  | bl b => exact .base (.bl b)
  | int i => exact .base (.int i)
  | str x => exact .base (.str x)
  | lst hs ha =>
    rcases hs with (h | ⟨o, h⟩) | ⟨o, its, n, hk, hc, _⟩
    · exact .base (.lst h)
    · exact .base (.frz h)
    · exact .kList hk hc
  | tup hs ha =>
    rcases hs with (h | ⟨o, h⟩) | ⟨o, its, n, hk, hc, _⟩
    · exact .base (.tup h)
    · exact .fTuple h
    · exact .kTuple hk hc
  | dct h => exact .base (.dK h)
theorem Dds.len {K : PySem.W.Frag} {H : Hp} : ∀ {vs : List V} {ds : List PyData}, Dds K H vs ds → vs.length = ds.length
  | _, _, .nil => rfl
  | _, _, .cons _ t => by rw [List.length_cons, List.length_cons, t.len]
theorem Dds.get {K : PySem.W.Frag} {H : Hp} : ∀ {vs : List V} {ds : List PyData}, Dds K H vs ds → ∀ {i : Nat} {v : V}, vs[i]? = some v → ∃ d, ds[i]? = some d ∧ Dd K H v d
  | _, _, .nil, i, v, h => by simp at h
  | _, _, .cons h t, 0, v, e => by
    simp at e
    subst e
    exact ⟨_, rfl, h⟩
  | _, _, .cons h t, i + 1, v, e => by
    simp at e
    obtain ⟨d, e1, e2⟩ := t.get e
    exact ⟨d, by simpa using e1, e2⟩
theorem Dds.at {K : PySem.W.Frag} {H : Hp} : ∀ {vs : List V} {ds : List PyData}, Dds K H vs ds → ∀ {i : Nat} {d : PyData}, ds[i]? = some d → ∃ v, vs[i]? = some v ∧ Dd K H v d
  | _, _, .nil, i, d, h => by simp at h
  | _, _, .cons h t, 0, d, e => by
    simp at e
    subst e
    exact ⟨_, rfl, h⟩
  | _, _, .cons h t, i + 1, d, e => by
    simp at e
    obtain ⟨v, e1, e2⟩ := t.at e
    exact ⟨v, by simpa using e1, e2⟩
theorem Dds.app {K : PySem.W.Frag} {H : Hp} : ∀ {vs ws : List V} {ds es : List PyData}, Dds K H vs ds → Dds K H ws es → Dds K H (vs ++ ws) (ds ++ es)
  | _, _, _, _, .nil, t => t
  | _, _, _, _, .cons h r, t => .cons h (Dds.app r t)
theorem Dds.strs {K : PySem.W.Frag} {H : Hp} : ∀ (ys : List Str), Dds K H (ys.map V.str) (ys.map PyData.str)
  | [] => .nil
  | y :: ys => .cons (.str y) (Dds.strs ys)
theorem Dds.bls {K : PySem.W.Frag} {H : Hp} : ∀ {vs : List V} {bs : List Bool}, Dds K H vs (bs.map PyData.bool) → vs = bs.map V.bl
  | _, [], .nil => rfl
  | _, b :: bs, .cons h t => by
    cases h
    rw [List.map_cons, t.bls]
theorem Dds.txts {K : PySem.W.Frag} {H : Hp} : ∀ {vs : List V} {ys : List Str}, Dds K H vs (ys.map PyData.str) → vs = ys.map V.str
  | _, [], .nil => rfl
  | _, y :: ys, .cons h t => by
    cases h
    rw [List.map_cons, t.txts]

mutual
/-- no list, no dict within -/
def noList : PyData → Bool
  | .none => true
  | .bool _ => true
  | .int _ => true
  | .str _ => true
  | .tuple ds => noLists ds
  | .list _ => false
  | .dict _ => false
def noLists : List PyData → Bool
  | [] => true
  | d :: ds => noList d && noLists ds
end
mutual
/-- such a datum does not hang on what a list holds -/
theorem Dd.upd {K : PySem.W.Frag} {H : Hp} {a : Addr} {xs : List V} {o : HO} (h : H a = some (.lst xs)) : ∀ (d : PyData) (v : V), noList d = true → Dd K H v d → Dd K (L2.upd H a o) v d
  | .none, _, _, g => by
    cases g
    exact .non
  | .bool b, _, _, g => by
    cases g
    exact .bl b
  | .int i, _, _, g => by
    cases g
    exact .int i
  | .str x, _, _, g => by
    cases g
    exact .str x
  | .tuple ds, _, n, g => by
    cases g with
    | @tup b ys _ hs ha =>
      refine .tup ?_ (Dds.upd h ds _ n ha)
      have ne : ∀ {u : HO}, H b = some u → (∀ zs, u ≠ .lst zs) → L2.upd H a o b = some u := fun {u} hb nz => by
        rw [upd_ne (fun z => ?_)]
        · exact hb
        · rw [z, h] at hb
          exact nz xs (Option.some.inj hb).symm
      rcases hs with (hb | ⟨ob, hb⟩) | hb
      · exact .inl (.inl (ne hb (fun _ z => nomatch z)))
      · exact .inl (.inr ⟨ob, ne hb (fun _ z => nomatch z)⟩)
      · exact .inr hb
  | .list _, _, n, _ => by cases n
  | .dict _, _, n, _ => by cases n
theorem Dds.upd {K : PySem.W.Frag} {H : Hp} {a : Addr} {xs : List V} {o : HO} (h : H a = some (.lst xs)) : ∀ (ds : List PyData) (vs : List V), noLists ds = true → Dds K H vs ds → Dds K (L2.upd H a o) vs ds
  | [], _, _, g => by
    cases g
    exact .nil
  | d :: ds, _, n, g => by
    cases g with
    | cons g1 g2 =>
      have n2 : (noList d && noLists ds) = true := n
      rw [Bool.and_eq_true] at n2
      exact .cons (Dd.upd h d _ n2.1 g1) (Dds.upd h ds _ n2.2 g2)
end
theorem noLists_of : ∀ {ds : List PyData}, (∀ d ∈ ds, noList d = true) → noLists ds = true
  | [], _ => rfl
  | d :: ds, h => by
    show (noList d && noLists ds) = true
    rw [h d (List.mem_cons_self ..), noLists_of fun d' h' => h d' (List.mem_cons_of_mem _ h')] <;> rfl

def EvD (K : PySem.W.Frag) (te : TE) (σ : L2.St) (H : Hp) (d : PyData) : Prop := ∀ H1, Ex H H1 → ∀ Q : VK, (∀ v H2, Ex H1 H2 → Dd K H2 v d → Q v H2) → te σ H1 Q
def EvDs (K : PySem.W.Frag) (ta : TA) (σ : L2.St) (H : Hp) (ds : List PyData) : Prop := ∀ H1, Ex H H1 → ∀ Q : List V → Hp → Prop, (∀ vs H2, Ex H1 H2 → Dds K H2 vs ds → Q vs H2) → ta σ H1 Q
/-- a new list of these data -/
def EvDL (K : PySem.W.Frag) (te : TE) (σ : L2.St) (H : Hp) (ds : List PyData) : Prop := ∀ H1, Ex H H1 → ∀ Q : VK, (∀ p xs H2, H1 p = none → Ex H1 H2 → H2 p = some (.lst xs) → Dds K H2 xs ds → Q (.ref p) H2) → te σ H1 Q
/-- a def that answers a datum to data -/
def SpD (K : PySem.W.Frag) (sp : Sp) (ds : List PyData) (r : PyData) : Prop := ∀ vs H, Dds K H vs ds → ∀ Q : VK, (∀ v H', Ex H H' → Dd K H' v r → Q v H') → ∀ E : XK, sp vs H Q E
def spD (K : PySem.W.Frag) (ok : List PyData → Prop) (F : List PyData → PyData) : Sp := fun vs H Q _ => ∃ ds, Dds K H vs ds ∧ ok ds ∧ ∀ v H', Ex H H' → Dd K H' v (F ds) → Q v H'
theorem spD_ok {K : PySem.W.Frag} {ok : List PyData → Prop} {F : List PyData → PyData} {ds : List PyData} {r : PyData} (h : ok ds) (e : F ds = r) : SpD K (spD K ok F) ds r := fun vs H dd Q q E => ⟨ds, dd, h, by rw [e]; exact q⟩

section
variable {K : PySem.W.Frag} {H H' : Hp} {σ : L2.St} {v x y : V} {d : PyData} {ds : List PyData} {te ta tb : TE} {tas : TA} {i : Nat} {D : Ends}
theorem EvD.mono (e : Ex H H') (h : EvD K te σ H d) : EvD K te σ H' d := fun H1 a Q q => h H1 (e.trans a) Q q
theorem ed_of (h : Ev te σ H v) (g : Dd K H v d) : EvD K te σ H d := fun H1 e Q q => h H1 e Q fun H2 e2 => q v H2 e2 (Dd.ext (e.trans e2) d v g)
theorem ed_var (h : σ[i]? = some (some v)) (g : Dd K H v d) : EvD K (tVar i) σ H d := ed_of (ev_var h) g
theorem ed_str {z : Str} (h : Ev te σ H (.str z)) : EvD K te σ H (.str z) := ed_of h (.str z)
theorem ed_int {z : Int} (h : Ev te σ H (.int z)) : EvD K te σ H (.int z) := ed_of h (.int z)
theorem ed_bl {z : Bool} (h : Ev te σ H (.bl z)) : EvD K te σ H (.bool z) := ed_of h (.bl z)
theorem ed_non (h : Ev te σ H .non) : EvD K te σ H .none := ed_of h .non
theorem EvD.str {z : Str} (h : EvD K te σ H (.str z)) : Ev te σ H (.str z) := fun H1 e Q q => h H1 e Q fun v H2 e2 dd => by
  cases dd
  exact q H2 e2
theorem EvD.int {z : Int} (h : EvD K te σ H (.int z)) : Ev te σ H (.int z) := fun H1 e Q q => h H1 e Q fun v H2 e2 dd => by
  cases dd
  exact q H2 e2
theorem EvD.bl {z : Bool} (h : EvD K te σ H (.bool z)) : Ev te σ H (.bl z) := fun H1 e Q q => h H1 e Q fun v H2 e2 dd => by
  cases dd
  exact q H2 e2
theorem EvD.non (h : EvD K te σ H .none) : Ev te σ H .non := fun H1 e Q q => h H1 e Q fun v H2 e2 dd => by
  cases dd
  exact q H2 e2
theorem ed_is {d' : PyData} (h : EvD K te σ H d) (e : d = d') : EvD K te σ H d' := by
  subst e
  exact h
theorem eds_nil : EvDs K tNil σ H [] := fun H1 _ _ q => q [] H1 (Ex.refl H1) .nil
theorem eds_cons {tr : TA} (h : EvD K ta σ H d) (hr : EvDs K tr σ H ds) : EvDs K (tCons ta tr) σ H (d :: ds) := fun H1 e Q q =>
  h H1 e _ fun v H2 e2 g => hr H2 (e.trans e2) _ fun vs H3 e3 gs => q (v :: vs) H3 (e2.trans e3) (.cons (Dd.ext e3 _ _ g) gs)
theorem ed_tup (h : EvDs K tas σ H ds) (hl : ds.length ≤ 100000) : EvD K (tTup tas) σ H (.tuple ds) := fun H1 e Q q =>
  h H1 e _ fun vs H2 e2 g => ⟨sz_of (by rw [g.len]; exact hl), fun p hp => q (.ref p) _ (e2.trans (Ex.new hp)) (.tup (st_of upd_same) (Dds.ext (Ex.new hp) _ _ g))⟩
theorem ed_lst (h : EvDs K tas σ H ds) (hl : ds.length ≤ 100000) : EvD K (tLstB tas) σ H (.list ds) := fun H1 e Q q =>
  h H1 e _ fun vs H2 e2 g => ⟨sz_of (by rw [g.len]; exact hl), fun p hp hs => q (.ref p) _ (e2.trans (Ex.new hp)) (.lst (sq_of upd_same) (Dds.ext (Ex.new hp) _ _ g))⟩
theorem edl_lst (h : EvDs K tas σ H ds) (hl : ds.length ≤ 100000) : EvDL K (tLst tas) σ H ds := fun H1 e Q q =>
  h H1 e _ fun vs H2 e2 g => ⟨sz_of (by rw [g.len]; exact hl), fun p hp => q p vs _ (fresh_back e2 hp) (e2.trans (Ex.new hp)) upd_same (Dds.ext (Ex.new hp) _ _ g)⟩
theorem ed_call {sp : Sp} {r : PyData} {E : XK} (h : EvDs K tas σ H ds) (hs : SpD K sp ds r) : EvD K (tCall sp [] E tas) σ H r := fun H1 e Q q =>
  h H1 e _ fun vs H2 e2 g => hs (vs ++ []) H2 (by rw [List.append_nil]; exact g) Q (fun v H3 e3 g3 => q v H3 (e2.trans e3) g3) E
/-- isinstance(e, n) -/
theorem ed_isi {n : String} {b : Bool} (h : EvD K te σ H d) (e : kitB (tyD d) n = some b) : Ev (tCB (rIsi K) (tCons te (tCons (tC (.ty n)) tNil))) σ H (.bl b) := fun H1 e1 Q q =>
  h H1 e1 _ fun v H2 e2 g => ⟨v, .ty n, .type (tyD d), .type n, b, rfl, .ty n, g.ty, kit_ty e, q H2 e2⟩
/-- len(e) of a tuple or a text -/
def rLenD (K : PySem.W.Frag) : List V → Hp → VK → Prop := fun xs H Q => ∃ x n, xs = [x] ∧ LenV K x H n ∧ Q (.int n) H
theorem ed_lenT (h : EvD K te σ H (.tuple ds)) : Ev (tCB (rLenD K) (tCons te tNil)) σ H (.int (ds.length : Int)) := fun H1 e1 Q q =>
  h H1 e1 _ fun v H2 e2 g => by
    cases g with
    | tup hs ha => exact ⟨_, ds.length, rfl, .inr ⟨_, hs, ha.len.symm⟩, q H2 e2⟩
theorem ed_lenS {z : Str} (h : Ev te σ H (.str z)) (hz : z.length ≤ 100000) : Ev (tCB (rLenD K) (tCons te tNil)) σ H (.int (z.length : Int)) := fun H1 e1 Q q =>
  h H1 e1 _ fun H2 e2 => ⟨_, z.length, rfl, ⟨sz_of hz, rfl⟩, q H2 e2⟩
theorem ed_lenL {p : Addr} {xs : List V} (h : Ev te σ H (.ref p)) (hx : SqL K H p xs) : Ev (tCB (rLenD K) (tCons te tNil)) σ H (.int (xs.length : Int)) := fun H1 e1 Q q =>
  h H1 e1 _ fun H2 e2 => ⟨_, xs.length, rfl, .inl ⟨xs, ex_l (e1.trans e2) hx, rfl⟩, q H2 e2⟩
/-- e[j] of a tuple -/
theorem ed_ixT {j : Nat} (h : EvD K ta σ H (.tuple ds)) (hi : ∀ H1, Ex H H1 → Ev tb σ H1 (.int (j : Int))) (hd : ds[j]? = some d) : EvD K (tOp (rIxT K) ta tb) σ H d := fun H1 e1 Q q =>
  h H1 e1 _ fun v H2 e2 g => hi H2 (e1.trans e2) H2 (Ex.refl _) _ fun H3 e3 => by
    cases g with
    | @tup a xs _ hs ha =>
      obtain ⟨x, hx, gx⟩ := ha.at hd
      have lt : j < xs.length := (List.getElem?_eq_some_iff.mp hx).1
      exact ⟨a, xs, (j : Int), x, rfl, rfl, ex_t e3 hs, atI_nat hx, q x H3 (e2.trans e3) (Dd.ext e3 _ _ gx)⟩

/-! statements -/
theorem s_asgD (h : EvD K te σ H d) (k : ∀ v H1, Ex H H1 → Dd K H1 v d → D.nx (σ.set i (some v)) H1) : tAsg te (gName i) D σ H := h H (Ex.refl H) _ fun v H1 e g => k v H1 e g
theorem q_asgD {tz : TS} (h : EvD K te σ H d) (k : ∀ v H1, Ex H H1 → Dd K H1 v d → tz D (σ.set i (some v)) H1) : tSeq (tAsg te (gName i)) tz D σ H := s_asgD (D := { D with nx := tz D }) h k
theorem s_asgDL (h : EvDL K te σ H ds) (k : ∀ p xs H1, H p = none → Ex H H1 → H1 p = some (.lst xs) → Dds K H1 xs ds → D.nx (σ.set i (some (.ref p))) H1) : tAsg te (gName i) D σ H := h H (Ex.refl H) _ fun p xs H1 hp e h1 g => k p xs H1 hp e h1 g
theorem q_asgDL {tz : TS} (h : EvDL K te σ H ds) (k : ∀ p xs H1, H p = none → Ex H H1 → H1 p = some (.lst xs) → Dds K H1 xs ds → tz D (σ.set i (some (.ref p))) H1) : tSeq (tAsg te (gName i)) tz D σ H := s_asgDL (D := { D with nx := tz D }) h k
theorem s_retD (h : EvD K te σ H d) (k : ∀ v H1, Ex H H1 → Dd K H1 v d → D.rt v H1) : tRet te D σ H := h H (Ex.refl H) _ fun v H1 e g => k v H1 e g

/-! what is walked, by data -/
def EvIt (K : PySem.W.Frag) (wi : TI) (σ : L2.St) (H : Hp) (ds : List PyData) : Prop := ∀ H1, Ex H H1 → ∀ R : It → Hp → Prop,
  (∀ J H2, Ex H1 H2 → Walk J ds.length (fun H' => Ex H2 H') (fun i Hh x H' => H' = Hh ∧ ∃ d, ds[i]? = some d ∧ Dd K Hh x d) → R J H2) → wi σ H1 R
theorem walk_L {a : Addr} {xs : List V} (hx : SqL K H a xs) (g : Dds K H xs ds) : Walk (Itl K a) ds.length (fun H' => Ex H H') (fun i Hh x H' => H' = Hh ∧ ∃ d, ds[i]? = some d ∧ Dd K Hh x d) := by
  rw [← g.len]
  exact walk_list.mono (fun H' e => ex_l e hx) fun i Hh x H' _ e y => ⟨y.1, (Dds.ext e _ _ g).get y.2⟩
theorem walk_T {a : Addr} {xs : List V} (hx : SqT K H a xs) (g : Dds K H xs ds) : Walk (Itt K a) ds.length (fun H' => Ex H H') (fun i Hh x H' => H' = Hh ∧ ∃ d, ds[i]? = some d ∧ Dd K Hh x d) := by
  rw [← g.len]
  exact walk_tup.mono (fun H' e => ex_t e hx) fun i Hh x H' _ e y => ⟨y.1, (Dds.ext e _ _ g).get y.2⟩
def signsD (z : Str) : List PyData := z.cps.toList.map fun c => .str ⟨#[c]⟩
theorem walk_S {z : Str} : Walk (Its z) (signsD z).length (fun H' => Ex H H') (fun i Hh x H' => H' = Hh ∧ ∃ d, (signsD z)[i]? = some d ∧ Dd K Hh x d) := by
  have e : (signsD z).length = z.cps.size := by simp [signsD]
  rw [e]
  refine walk_str.mono (fun _ _ => True.intro) fun i Hh x H' _ _ y => ?_
  obtain ⟨y1, c, y2, rfl⟩ := y
  exact ⟨y1, .str ⟨#[c]⟩, by simp [signsD, y2], .str _⟩
theorem it_L {tl : TE} {a : Addr} {xs : List V} (h : Ev tl σ H (.ref a)) (hx : SqL K H a xs) (g : Dds K H xs ds) : EvIt K (iList K tl) σ H ds := fun H1 e R k =>
  h H1 e _ fun H2 e2 => ⟨a, rfl, ⟨xs, ex_l (e.trans e2) hx⟩, k _ H2 e2 (walk_L (ex_l (e.trans e2) hx) (Dds.ext (e.trans e2) _ _ g))⟩
theorem it_NL {tl : TE} (h : EvDL K tl σ H ds) : EvIt K (iList K tl) σ H ds := fun H1 e R k =>
  h H1 e _ fun p xs H2 hp e2 hx g => ⟨p, rfl, ⟨xs, sq_of hx⟩, k _ H2 e2 (walk_L (sq_of hx) g)⟩
theorem it_T {tl : TE} (h : EvD K tl σ H (.tuple ds)) : EvIt K (iTup K tl) σ H ds := fun H1 e R k =>
  h H1 e _ fun v H2 e2 g => by
    cases g with
    | @tup a xs _ hs ha => exact ⟨a, rfl, ⟨xs, hs⟩, k _ H2 e2 (walk_T hs ha)⟩
theorem it_S {tl : TE} {z : Str} (h : Ev tl σ H (.str z)) : EvIt K (iStr tl) σ H (signsD z) := fun H1 e R k => h H1 e _ fun H2 e2 => ⟨z, rfl, k _ H2 e2 walk_S⟩
theorem take_yes {p : PyData → Bool} {f : PyData → PyData} {i : Nat} (e : ds[i]? = some d) (h : p d = true) : ((ds.take (i + 1)).filter p).map f = ((ds.take i).filter p).map f ++ [f d] := by
  rw [List.take_add_one, e]
  simp [h]
theorem take_no {p : PyData → Bool} {f : PyData → PyData} {i : Nat} (e : ds[i]? = some d) (h : p d = false) : ((ds.take (i + 1)).filter p).map f = ((ds.take i).filter p).map f := by
  rw [List.take_add_one, e]
  simp [h]
/-- [f for x in .. if p] -/
theorem edl_lc {wi : TI} {tt : TT} {j : Nat} {vs : List Nat} (p : PyData → Bool) (f : PyData → PyData) (h : EvIt K wi σ H ds) (hz : ds.length ≤ 40000) (nl : ∀ d, d ∈ ds → p d = true → noList (f d) = true) (hw : ∀ x, wipe ((wipe σ vs).set j (some x)) vs = wipe σ vs)
    (ht : ∀ x d H1, Ex H H1 → d ∈ ds → Dd K H1 x d → EvT tt ((wipe σ vs).set j (some x)) H1 (p d)) (he : ∀ x d H1, Ex H H1 → d ∈ ds → Dd K H1 x d → p d = true → EvD K te ((wipe σ vs).set j (some x)) H1 (f d)) :
    EvDL K (tLc wi (gName j) tt te vs) σ H ((ds.filter p).map f) := fun H0 e Q q => h H0 e _ fun J H1 e1 w Dl hD =>
  lc_it w (fun i H' => Ex (upd H1 Dl (.lst [])) (upd H' Dl (.lst [])) ∧ ∃ acc, H' Dl = some (.lst acc) ∧ Dds K H' acc (((ds.take i).filter p).map f)) ⟨fun a o h => by rw [upd_upd]; exact h, [], upd_same, by simp; exact .nil⟩
    (fun i H' _ p' a o ha => by
      have n : a ≠ Dl := ne_of_none ha hD
      have q1 := p'.1 a o (by rw [upd_ne n]; exact ha)
      rw [upd_ne n] at q1
      exact q1)
    (fun i x H' H2 hi pv y => by
      obtain ⟨rfl, d, hd, g⟩ := y
      obtain ⟨p1, acc, p2, p3⟩ := pv
      have ex : Ex H1 H2 := fun a o ha => by
        have n : a ≠ Dl := ne_of_none ha hD
        have q1 := p1 a o (by rw [upd_ne n]; exact ha)
        rw [upd_ne n] at q1
        exact q1
      have hm : d ∈ ds := List.mem_of_getElem? hd
      have la : acc.length ≤ i := by
        rw [p3.len, List.length_map]
        refine Nat.le_trans (List.length_filter_le _ _) ?_
        rw [List.length_take]
        omega
      have exE : Ex H H2 := (e.trans e1).trans ex
      refine ⟨hw x, ht x d H2 exE hm g H2 (Ex.refl _) _ fun H3 e3 => ?_⟩
      have step : ∀ {H4 : Hp}, Ex H2 H4 → Ex (upd H1 Dl (.lst [])) (upd H4 Dl (.lst [])) := fun {H4} e4 a o ha => by
        by_cases n : a = Dl
        · subst n
          rw [upd_same] at ha ⊢
          exact ha
        · rw [upd_ne n] at ha ⊢
          exact e4 a o (ex a o ha)
      cases hp : p d with
      | true =>
        refine he x d H3 (exE.trans e3) hm (Dd.ext e3 _ _ g) hp H3 (Ex.refl _) _ fun u H4 e4 gu => ⟨acc, e4 _ _ (e3 _ _ p2), sz_lt (by omega), ?_, acc ++ [u], upd_same, ?_⟩
        · rw [upd_upd]
          exact step (e3.trans e4)
        · rw [take_yes hd hp]
          have nl1 : noLists (((ds.take i).filter p).map f) = true := noLists_of fun d' h' => by
            rw [List.mem_map] at h'
            obtain ⟨d0, h0, rfl⟩ := h'
            rw [List.mem_filter] at h0
            exact nl d0 (List.mem_of_mem_take h0.1) h0.2
          have p2' := e4 _ _ (e3 _ _ p2)
          exact Dds.app (Dds.upd p2' _ _ nl1 (Dds.ext (e3.trans e4) _ _ p3)) (.cons (Dd.upd p2' _ _ (nl d hm hp) gu) .nil)
      | false =>
        refine ⟨step e3, acc, e3 _ _ p2, ?_⟩
        rw [take_no hd hp]
        exact Dds.ext e3 _ _ p3)
    (fun H' pv => by
      obtain ⟨p1, acc, p2, p3⟩ := pv
      rw [List.take_length] at p3
      refine q Dl acc H' (fresh_back e1 hD) (e1.trans fun a o ha => ?_) p2 p3
      have n : a ≠ Dl := ne_of_none ha hD
      have q1 := p1 a o (by rw [upd_ne n]; exact ha)
      rw [upd_ne n] at q1
      exact q1)
end
end My
set_option maxHeartbeats 4000000
/-! the end of a law whose defs make lambdas: the tables of their code objects are tracked from the start, no guarded builtin runs -/
namespace My
open PySem PySem.Spec PyProof.Rows L2

/-- the script and the empty tables, nothing else -/
def scriptTabs (K : PySem.W.Frag) (ts : List Addr) (a : Addr) (o : Obj) (xs : List V) : Hp := fun b => if b ∈ ts then some (.tbl #[]) else onlyScript K a o xs b

theorem lawCallT {P : Program} {w : World} {K : PySem.W.Frag} {mg mb : Str → Option Value} {k : Nat} {fa a : Addr} {cs : List (Addr × Addr)} {fd : FuncData} {x : Str} {sp : Sp}
    {s₁ : Shared} {vs : List Value} {ns : List Int}
    (inK : K.In s₁.heap) (glob : s₁.heap.Ns mainGlobals mg) (blt : s₁.heap.Ns builtinsNs mb) (bltIs : ∀ x : Str, x ≠ "__name__" → mb x = bootBuiltins x)
    (free : s₁.heap.NoLimit) (gens : s₁.gens = #[])
    (tabs : ∀ p ∈ cs, s₁.heap.get? p.2 = some { cls := .none, data := .fields #[] }) (out : ∀ p ∈ cs, K.lookup p.2 = none) (code : ∀ p ∈ cs, PySem.W.CodeHd s₁.heap p.1 p.2)
    (modB : ∃ (bm : Addr) (ob : Obj), mg "__builtins__" = some (.ref bm) ∧ bm ≠ builtinsNs ∧ s₁.heap.get? bm = some ob ∧ ob.cls = .type "module" ∧ ob.dict = some builtinsNs ∧ ob.data = .plain)
    (ha : s₁.heap.get? a = some { cls := .type "list", data := .seq vs.toArray }) (areInts : IntsAre vs ns)
    (len : ns.length ≤ sizeLine) (room : Room k callerA)
    (F : ∀ base : Heap, K.In base → base.Ns mainGlobals mg → (∀ p ∈ cs, LamX.TabB base mg p.1 p.2) → FnG P w K mg base CX0 k fa fd [x] sp)
    (binds : ∀ (s : Shared) (u : Value), BindsTo s fd ⟨[u], []⟩ [(x, u)])
    (promise : ∀ H : Hp, (∀ p ∈ cs, H p.2 = some (.tbl #[])) → SqL K H a (ns.map V.int) → sp [.ref a] H (fun v _ => v = .bl true) fun _ _ _ => False) :
    codeAny (model P w) callerA (.call (.ref fa) ⟨[.ref a], []⟩)
      (fun r s' => r = .ok (.ret (.bool true)) ∧ OldK s₁.heap s'.heap ∧ s'.os = s₁.os ∧ AllBare s'.gens) s₁ := by
  have rv := vals_ints areInts
  have lenV := areInts.length
  let ts := cs.map (·.2)
  let ob : Obj := { cls := .type "list", data := .seq vs.toArray }
  let H := scriptTabs K ts a ob (ns.map V.int)
  have isTab : ∀ {b : Addr}, b ∈ ts → s₁.heap.get? b = some { cls := .none, data := .fields #[] } := fun {b} hb => by
    obtain ⟨p, hp, rfl⟩ := List.mem_map.mp hb
    exact tabs p hp
  have aOut : a ∉ ts := fun z => by
    have q := isTab z
    rw [ha] at q
    have q2 := congrArg Obj.data (Option.some.inj q)
    cases q2
  have Htab : ∀ {b : Addr}, b ∈ ts → H b = some (.tbl #[]) := fun hb => if_pos hb
  have Hrest : ∀ {b : Addr}, b ∉ ts → H b = onlyScript K a ob (ns.map V.int) b := fun hb => if_neg hb
  have hok : HOk P w H s₁.heap := fun b u e => by
    by_cases hb : b ∈ ts
    · rw [Htab hb] at e
      cases e
      exact isTab hb
    · rw [Hrest hb] at e
      obtain ⟨rfl, _, rfl⟩ := onlyScript_at e
      exact ⟨ha, by rw [List.length_map]; exact len, vs, _, rv, ha⟩
  have hS : SqL K H a (ns.map V.int) := by
    cases e : K.lookup a with
    | none => exact Or.inl (Or.inr ⟨ob, (Hrest aOut).trans (if_pos ⟨rfl, by rw [e]; rfl⟩)⟩)
    | some o =>
      have q := inK a o e
      rw [ha] at q
      cases q
      exact Or.inr ⟨_, vs.toArray, _, e, rfl, rfl, rfl, by rw [List.size_toArray, lenV]; exact len, by simpa using rv⟩
  have freeAt : ∀ {b : Addr}, (b = a → False) → b ∉ ts → H b = none := fun {b} n1 n2 => by
    rw [Hrest n2]
    cases e : onlyScript K a ob (ns.map V.int) b with
    | none => rfl
    | some u => exact (n1 (onlyScript_at e).1).elim
  have under : ∀ {b : Addr} {o : Obj}, s₁.heap.get? b = some o → H b = none → (hidT s₁.heap H).get? b = some o := fun e n => hidT_get e n
  -- an object that is neither a row of values nor an empty record is not tracked
  have other : ∀ {b : Addr} {o : Obj}, s₁.heap.get? b = some o → (∀ its n, o.data ≠ .seq its n) → o.data ≠ .fields #[] → (hidT s₁.heap H).get? b = some o := fun {b o} e n1 n2 => by
    refine under e (freeAt ?_ fun z => ?_)
    · rintro rfl
      rw [ha] at e
      cases e
      exact n1 _ _ rfl
    · rw [isTab z] at e
      cases e
      exact n2 rfl
  have maps : ∀ {b : Addr} {m : Str → Option Value}, s₁.heap.Ns b m → (hidT s₁.heap H).Ns b m := by
    rintro b m ⟨o, es, ep, e, d, r⟩
    exact ⟨o, es, ep, other e (fun _ _ z => by rw [d] at z; cases z) (fun z => by rw [d] at z; cases z), d, r⟩
  have inBase : K.In (hidT s₁.heap H) := fun b o e => under (inK b o e) (by
    by_cases hb : b ∈ ts
    · obtain ⟨p, hp, rfl⟩ := List.mem_map.mp hb
      rw [out p hp] at e
      cases e
    · rw [Hrest hb]
      cases q : onlyScript K a ob (ns.map V.int) b with
      | none => rfl
      | some u =>
        obtain ⟨rfl, z, _⟩ := onlyScript_at q
        rw [z] at e
        cases e)
  have md : Mod K mg (hidT s₁.heap H) := by
    obtain ⟨mc, q1, q2⟩ := free
    exact ⟨inBase, maps glob, ⟨mb, maps blt, bltIs⟩, ⟨mc, maps q1, q2⟩⟩
  have TB : ∀ p ∈ cs, LamX.TabB (hidT s₁.heap H) mg p.1 p.2 := fun p hp => by
    refine ⟨?_, ?_, ?_⟩
    · obtain ⟨o, us, file, tf, flags, tg, inF, text, tt, e1, r1, r2, rest⟩ := code p hp
      refine ⟨o, us, file, tf, flags, tg, inF, text, tt, other e1 (fun _ _ z => by rw [r2] at z; cases z) (fun z => ?_), r1, r2, rest⟩
      have z2 := r2.symm.trans z
      have us0 : us = #[] := by injection z2
      have h3 := rest.1
      rw [us0] at h3
      simp at h3
    · obtain ⟨bm, obm, b1, b2, b3, b4, b5, b6⟩ := modB
      refine ⟨bm, obm, b1, b2, ?_, ?_, other b3 (fun _ _ z => by rw [b6] at z; cases z) (fun z => by rw [b6] at z; cases z), b4, b5, b6⟩
      · rintro rfl
        obtain ⟨o, es, ep, e, d, _⟩ := glob
        rw [e] at b3
        cases b3
        rw [d] at b6
        cases b6
      · rintro rfl
        rw [tabs p hp] at b3
        cases b3
        cases b6
    · intro z
      obtain ⟨o, es, ep, e, d, _⟩ := glob
      rw [z, tabs p hp] at e
      cases e
      cases d
  have nil : ∀ b : Addr, b ∈ frs [] → False := fun b z => by
    have z' : b ∈ ([] : List Addr) := z
    cases z'
  have e0 : Env0 P w K mg (hidT s₁.heap H) callerA [] s₁ H :=
    ⟨rfl, md, fun b o e => of_hidT e, Nat.le_of_eq (hidT_size _ _), trivial, fun b hb => (nil b hb).elim, hok, .of_eq gens⟩
  have run := (F _ inBase (maps glob) TB).run callerA [] s₁ H ⟨[.ref a], []⟩ [.ref a] [.ref a] _ _ rfl room e0 (binds s₁ (.ref a)) (.cons rfl .nil)
    (promise H (fun p hp => Htab (List.mem_map_of_mem hp)) hS)
  refine codeAny_mono run fun r s' h => ?_
  match r, h with
  | .error e, h => exact False.elim h
  | .ok (.ret u), h =>
    obtain ⟨v, H', os, bare, un, hok', r', q⟩ := h
    obtain rfl : v = .bl true := q
    obtain rfl : u = Value.bool true := r'
    have same : ∀ b o, b ∉ ts → s₁.heap.get? b = some o → s'.heap.get? b = some o := fun b o nb e => by
      cases q : H b with
      | none => exact un.keep b o e q (fun z => nil b z) (by simp)
      | some u =>
        have q1 := q
        rw [Hrest nb] at q1
        obtain ⟨rfl, _, rfl⟩ := onlyScript_at q1
        have q2 := un.frzs _ _ _ q
        obtain ⟨e2, _⟩ := hok' _ _ q2
        rw [ha] at e
        cases e
        exact e2
    have bigger : ∀ p ∈ cs, ∃ more : Array Value, s'.heap.get? p.2 = some { cls := .none, data := .fields more } := fun p hp => by
      obtain ⟨more, z⟩ := un.tbls p.2 #[] (Htab (List.mem_map_of_mem hp))
      exact ⟨_, hok' p.2 _ z⟩
    refine ⟨rfl, ⟨fun b o e => ?_, fun b o e => ?_⟩, os, bare⟩
    · by_cases hb : b ∈ ts
      · obtain ⟨p, hp, rfl⟩ := List.mem_map.mp hb
        obtain ⟨more, hm⟩ := bigger p hp
        rw [tabs p hp] at e
        cases e
        refine .inr (.inl ⟨((code p hp).tab (tabs p hp)).isCodeTable, rfl, #[], more, rfl, ?_⟩)
        rw [Array.empty_append]
        exact hm
      · exact .inl (same b o hb e)
    · by_cases hb : b ∈ ts
      · obtain ⟨p, hp, rfl⟩ := List.mem_map.mp hb
        obtain ⟨more, hm⟩ := bigger p hp
        exact ⟨_, hm⟩
      · exact ⟨o, same b o hb e⟩
  | .ok .next, h => exact False.elim h
  | .ok .brk, h => exact False.elim h
  | .ok .cont, h => exact False.elim h

/-- what the head leaves to the law's promise, with tables -/
theorem walkGT {l : PySem.W.OpenLaw} {n k : Nat} {q : Program} {loose : List Str} {XP : (Str → Option Value) → Heap → Prop} {YP : World → Heap → Prop}
    {d : DefRec} {K : Params → PySem.W.Frag} {sp : World → Sp} {x : Str}
    (most : l.most = some n) (small : n ≤ sizeLine) (hdf : d.params.defaults = []) (room : Room k callerA)
    (hY : ∀ (w : World) (h : Heap), YP w h → (K w.params).In h)
    (F : ∀ (w : World) (mg : Str → Option Value) (fa : Addr) (h : Heap), YP w h → (K w.params).In h → h.Ns mainGlobals mg → mg d.name = some (.ref fa) →
      ∃ (fd : FuncData) (cs : List (Addr × Addr)), (∀ p ∈ cs, h.get? p.2 = some { cls := .none, data := .fields #[] }) ∧ (∀ p ∈ cs, (K w.params).lookup p.2 = none) ∧ (∀ p ∈ cs, PySem.W.CodeHd h p.1 p.2) ∧
        (∀ (s : Shared) (u : Value), BindsTo s fd ⟨[u], []⟩ [(x, u)]) ∧
        (∀ (H : Hp) (a : Addr) (ns : List Int), ns.length ≤ n → (∀ p ∈ cs, H p.2 = some (.tbl #[])) → SqL (K w.params) H a (ns.map V.int) → sp w [.ref a] H (fun v _ => v = .bl true) fun _ _ _ => False) ∧
        ∀ base : Heap, (K w.params).In base → base.Ns mainGlobals mg → (∀ p ∈ cs, LamX.TabB base mg p.1 p.2) → FnG l.prog w (K w.params) mg base CX0 k fa fd [x] (sp w)) :
    PySem.W.WalkO q loose XP YP l.row.toRowW d [] (fun f vs => PySem.call f vs) := by
  refine Att.attach_callB most hdf fun w s₀ s₁ mg mb fa o pm cd doc a vs ns G Y ho hd hcd hmg hobj hints hlen hbits hg => ?_
  have inK := hY w _ Y
  obtain ⟨fd, cs, tabs, out, code, binds, promise, hF⟩ := F w mg fa _ Y inK G.T.g hmg
  exact lawCallT inK G.T.g G.T.b G.T.builtins G.T.nolimit hg tabs out code G.T.bmain hobj hints (Nat.le_trans hlen small) room hF binds
    fun H hH hS => promise H a ns hlen hH hS
end My
set_option maxHeartbeats 2000000
/-! own == on a plain instance, whatever the other side is; len of an instance -/
namespace My
open PySem PySem.Spec PyProof.Rows L2
theorem cmpback2 {P : Value → Shared → Prop} {z : V} {v : Value} {s' : Shared} (r : RelV z v) (h : P v s') : PySem.W.CmpBack P v s' := by
  cases z with
  | non => cases (show v = Value.none from r); exact h
  | bl b => cases (show v = Value.bool b from r); exact h
  | int i =>
    obtain ⟨t, e⟩ := (show ∃ t, v = Value.int i t from r)
    cases e
    exact h
  | str x =>
    obtain ⟨t, e⟩ := (show ∃ t, v = Value.str x t from r)
    cases e
    exact h
  | byt x =>
    obtain ⟨t, e⟩ := (show ∃ t, v = Value.bytes x t from r)
    cases e
    exact h
  | flt x =>
    obtain ⟨t, e⟩ := (show ∃ t, v = Value.float x t from r)
    cases e
    exact h
  | ref a => cases (show v = Value.ref a from r); exact h
  | ty n => cases (show v = Value.type n from r); exact h
section
variable {X : Cx} {CX : CXT} {k : Nat} {C g : Addr} {fd : FuncData} {ps : List Str} {sp : Sp} {E : XK}
/-- x op y, x an instance of the class at C whose def for op is at g; y of a type that is none below C -/
def rOwnI (K : PySem.W.Frag) (C : Addr) (sp : Sp) (E : XK) : R2 := fun x y H Q => ∃ a dx fs t, x = .ref a ∧ H a = some (.ins C dx fs) ∧ TyX K H y t ∧ PySem.W.notFirst K C t = true ∧ sp [x, y] H Q E
theorem op_ownI {op : CmpOp} (hop : ∀ a b, compareOp op a b = richCompare op a b) (hs : PySem.W.findIn X.K (.ref C) (cmpInfo op).2.1 = some (some (.ref g))) (hf : PySem.W.isFn X.K (.ref g) = true)
    (F : FnOk X.prog X.w X.K X.mg X.base CX k g fd ps sp) (hb : Binds X.K fd ps []) (hr : Room k X.A) (hx : Passes CX X E) : OpR X (compareOp op) (rOwnI X.K C sp E) := by
  intro pins s σ H x y v u Q I rx ry h
  obtain ⟨a, dx, fs, t, rfl, ha, ty, hn, q⟩ := h
  cases (show v = Value.ref a from rx)
  obtain ⟨mA, J, _⟩ := ins_get I.hok ha
  obtain ⟨od, J, _⟩ := J.look
  obtain ⟨P, Z, hP, _⟩ := kit_of I ry ty
  obtain ⟨m, hF⟩ := I.fr
  rw [hop]
  refine PySem.W.cmp_K (op := op) (tb := t) hr.units0 hF I.ok.mod.kin J (Z.ty _ _ I.kIn hP) hn hs hf ?_
  have r2 : Vals [V.ref a, y] [Value.ref a, u] := .cons rfl (.cons ry .nil)
  have z := run_fn (us := [.ref a, u]) (vs := [.ref a, y]) F hr hb .nil hx I r2 (by simpa using q)
  refine wpAny_mono z (fun w s' z => ?_) fun _ _ x => x
  obtain ⟨z', H', I', rz, qz⟩ := z
  exact cmpback2 rz ⟨z', H', I', rz, qz⟩
/-- len(x), x an instance with an own __len__ -/
def rLenI (C : Addr) (sp : Sp) (E : XK) : List V → Hp → VK → Prop := fun xs H Q => ∃ a dx fs, xs = [.ref a] ∧ H a = some (.ins C dx fs) ∧ sp xs H (fun v H' => ∃ n : Nat, v = .int n ∧ n < 1000000 ∧ Q (.int n) H') E
theorem call_lenI (hs : PySem.W.findIn X.K (.ref C) "__len__" = some (some (.ref g))) (hf : PySem.W.typeIn X.K (.ref g) = some (.type "function"))
    (F : FnOk X.prog X.w X.K X.mg X.base CX k g fd ps sp) (hb : Binds X.K fd ps []) (hr : Room (k + 1) X.A) (hx : Passes CX X.nox E) : CallR X (.builtin "len") (rLenI C sp E) := by
  intro pins s σ H xs us Q I r h
  obtain ⟨a, dx, fs, rfl, ha, q⟩ := h
  obtain ⟨mA, J, _⟩ := ins_get I.hok ha
  obtain ⟨od, J, _⟩ := J.look
  obtain ⟨u, rfl, ru⟩ : ∃ u, us = [u] ∧ RelV (.ref a) u := by
    cases r with
    | cons p q =>
      cases q
      exact ⟨_, rfl, p⟩
  cases (show u = Value.ref a from ru)
  obtain ⟨hp, gs, d, t, os⟩ := s
  refine Calls.call_function_entry kind_len plain_len entry_len (args_len1 _) ?_
  unfold Builtin.«len»
  refine wpAny_bind (m := oneArg "len" _) (wpAny_pure ?_)
  have hl : ([Value.ref a] : List Value).length = ps.length := by
    rw [← F.len _ _ _ _ q]
    rfl
  refine wpAny_bind (m := callSpecial? (.ref a) (Str.ofString "__len__")) (PySem.W.special_fn I.kIn J hs hf (wpAny_call (codeAny_mono (F.run X.A.in1 X.stack ⟨hp, gs, d, t, os⟩ H ⟨[.ref a], []⟩ [.ref a] [.ref a] _ E hr.in1 I.env0.in1 (by simpa using hb _ [.ref a] I.kIn hl) (.cons rfl .nil) q) fun r s' hq => ?_)))
  cases r with
  | error er => exact False.elim (hx pins σ H ⟨hp, gs, d, t, os⟩ er s' (I.wish _) hq)
  | ok fl =>
    cases fl with
    | ret u =>
      obtain ⟨v, H', I3, rv, n, rfl, hn, q3⟩ := I.after hq
      obtain ⟨tk, rfl⟩ := (show ∃ t, u = Value.int n t from rv)
      refine wpAny_bind (wpAny_holding (wpAny_pure ?_))
      refine wpAny_bind (wpAny_letGo ?_)
      show wpAny _ _ (if (n : Int) < 0 then _ else _) _ _ _
      rw [if_neg (by omega)]
      show wpAny _ _ (if (n : Int) ≥ 2 ^ 63 then _ else _) _ _ _
      rw [if_neg (by omega)]
      refine wpAny_bind (wpAny_mkInt (wpAny_pure ?_))
      exact ⟨_, rfl, V.int n, H', I3.tok _, ⟨_, rfl⟩, q3⟩
    | next => exact False.elim hq
    | brk => exact False.elim hq
    | cont => exact False.elim hq
end
end My
set_option maxHeartbeats 2000000
/-! == of dicts whose values are data -/
namespace My
open PySem PySem.Spec PyProof.Rows L2
mutual
def noDict : PyData → Bool
  | .none => true
  | .bool _ => true
  | .int _ => true
  | .str _ => true
  | .tuple ds => noDicts ds
  | .list ds => noDicts ds
  | .dict _ => false
def noDicts : List PyData → Bool
  | [] => true
  | d :: ds => noDict d && noDicts ds
end
mutual
theorem dp_ofL {K : PySem.W.Frag} {H : Hp} : ∀ (d : PyData) (v : V), noDict d = true → Dd K H v d → Dp K H v d
  | .none, _, _, g => by
    cases g
    exact .non
  | .bool b, _, _, g => by
    cases g
    exact .bl b
  | .int i, _, _, g => by
    cases g
    exact .int i
  | .str x, _, _, g => by
    cases g
    exact .str x
  | .tuple ds, _, n, g => by
    cases g with
    | tup hs ha => exact .tup hs (dps_ofL ds _ n ha)
  | .list ds, _, n, g => by
    cases g with
    | lst hs ha => exact .lst hs (dps_ofL ds _ n ha)
  | .dict _, _, n, _ => by cases n
theorem dps_ofL {K : PySem.W.Frag} {H : Hp} : ∀ (ds : List PyData) (vs : List V), noDicts ds = true → Dds K H vs ds → DpAll K H vs ds
  | [], _, _, g => by
    cases g
    exact .nil
  | d :: ds, _, n, g => by
    cases g with
    | cons g1 g2 =>
      have n2 : (noDict d && noDicts ds) = true := n
      rw [Bool.and_eq_true] at n2
      exact .cons (dp_ofL d _ n2.1 g1) (dps_ofL ds _ n2.2 g2)
end
section
variable {X : Cx}
/-- d == e, both dicts by keys; e says what the values under a key answer -/
def rEqDK (K : PySem.W.Frag) : R2 := fun x y H Q => ∃ (a b : Addr) (ka kb : List (Key × V)) (e : Key → Bool), x = .ref a ∧ y = .ref b ∧ H a = some (.dK ka) ∧ H b = some (.dK kb) ∧
  (∀ p ∈ ka, ∀ v', valV kb p.1 = some v' → ∃ d d', Dp K H p.2 d ∧ Dp K H v' d' ∧ d.canLay0 = true ∧ d'.canLay0 = true ∧ d.depth ≤ 30 ∧ e p.1 = PyData.eqv d d') ∧
  Q (.bl (ka.length == kb.length && ka.all fun p => (valV kb p.1).isSome && e p.1)) H
theorem kv_keys {κ : Type} {ka : List (κ × V)} {va : List (κ × Value)} (r : KV ka va) (f : κ → Bool) : (va.all fun p => f p.1) = ka.all fun p => f p.1 := by
  unfold KV at r
  induction r with
  | nil => rfl
  | cons h _ ih => rw [List.all_cons, List.all_cons, ih, h.1]
theorem kv_mem {κ : Type} {ka : List (κ × V)} {va : List (κ × Value)} (r : KV ka va) {k : κ} {u : Value} (h : (k, u) ∈ va) : ∃ v, (k, v) ∈ ka ∧ RelV v u := by
  unfold KV at r
  induction r with
  | nil => cases h
  | @cons p q _ _ z _ ih =>
    rcases List.mem_cons.mp h with rfl | h
    · refine ⟨p.2, ?_, z.2⟩
      have e : p.1 = k := z.1
      rw [← e]
      exact List.mem_cons_self ..
    · obtain ⟨v, h1, h2⟩ := ih h
      exact ⟨v, List.mem_cons_of_mem _ h1, h2⟩
theorem op_eqDK (hu : X.A.units + 64 < cLine) : OpR X (compareOp .Eq) (rEqDK X.K) := by
  intro pins s σ H x y v u Q I rx ry h
  obtain ⟨a, b, ka, kb, e, rfl, rfl, ea, eb, hd, q⟩ := h
  obtain rfl : v = Value.ref a := rx
  obtain rfl : u = Value.ref b := ry
  obtain ⟨_, ya, va, ra, da⟩ := (show ObjOk X.prog X.w H s.heap a (.dK ka) from I.hok a _ ea)
  obtain ⟨_, yb, vb, rb, db⟩ := (show ObjOk X.prog X.w H s.heap b (.dK kb) from I.hok b _ eb)
  have some : ∀ k, (valueAt vb k).isSome = (valV kb k).isSome := fun k => by
    have z := rb.val k
    cases h1 : valV kb k <;> cases h2 : valueAt vb k <;> rw [h1, h2] at z <;> first | rfl | exact z.elim
  refine PySem.W.eq_dictsT (n := 30) (e := e) ya yb da db (fun k v y hm hv => ?_) (by omega) ?_
  · obtain ⟨v0, hm0, rv⟩ := kv_mem ra hm
    have z := rb.val k
    rw [hv] at z
    cases h1 : valV kb k with
    | none =>
      rw [h1] at z
      exact z.elim
    | some v' =>
      rw [h1] at z
      obtain ⟨d, d', g, g', c, c', dep, ek⟩ := hd _ hm0 v' h1
      obtain ⟨as, r1⟩ := Dp.reads I d v0 v g rv
      obtain ⟨bs, r2⟩ := Dp.reads I d' v' y g' z
      rw [ek]
      exact .leaf fun A hA => SeqAt.eqAt_reads d d' A s v y as bs r1 r2 c c' (by
        have := Nat.min_le_left d.depth d'.depth
        omega)
  · have e1 : (va.all fun p => (valueAt vb p.1).isSome && e p.1) = ka.all fun p => (valV kb p.1).isSome && e p.1 := by
      rw [kv_keys ra fun k => (valueAt vb k).isSome && e k]
      simp only [some]
    have e2 : va.length = ka.length := (Paired.length ra).symm
    have e3 : vb.length = kb.length := (Paired.length rb).symm
    rw [e1, e2, e3]
    exact ⟨.bl _, H, I, rfl, q⟩
end
end My
namespace My
open PySem PySem.Spec PyProof.Rows L2
def tRev (K : PySem.W.Frag) (te : TE) (ts : TO) : TE := fun σ H Q => te σ H fun x H1 => ts σ H1 fun o H2 => o = some (-1) ∧ ∃ a xs, x = .ref a ∧ SqL K H2 a xs ∧ ∀ p, H2 p = none → Q (.ref p) (upd H2 p (.lst xs.reverse))
/-- xs[::-1] of a list -/
theorem pe_rev {X : Cx} {e st : Expr} {te : TE} {ts : TO} {p2 pos : Pos} (he : PE X e te) (hs : PO X (some st) ts) : PE X (.Subscript e (.Slice none none (some st) p2) pos) (tRev X.K te ts) := by
  refine ⟨fun pins s σ H Q I h => ?_⟩
  refine Subscript_ (thn (he.run pins s σ H _ I h) fun v s1 ⟨x, H1, I1, r1, q1⟩ => ?_)
  refine wpAny_Slice ?_
  rw [evalPart_none]
  refine wpAny_pure ?_
  refine wpAny_pure ?_
  refine thn (hs.run pins s1 σ H1 _ I1 q1) fun vk s3 ⟨o, H3, I3, pk, q3⟩ => ?_
  obtain ⟨rfl, a, xs, rfl, hx, q⟩ := q3
  cases r1
  have I4 : Inv X pins σ H3 { s3 with heap := s3.heap.push { cls := .type "slice", data := .fields #[.none, .none, vk] } } := I3.kept (t' := s3.toks) fun b ob q => Heap.get?_push_of_some _ q
  obtain ⟨its, r, ht, hz⟩ := I4.list hx
  have hlen := r.length
  show wpAny (model X.prog X.w) X.A (subscriptTail e (.Slice none none (some st) p2) (.ref a) (.ref s3.heap.objs.size)) (EP X pins σ Q) X.xe { s3 with heap := s3.heap.push { cls := .type "slice", data := .fields #[.none, .none, vk] } }
  refine tail_any (ops := [.ref a, .ref s3.heap.objs.size]) ht.isList.typeIs slot_list_getitem.lookup ?_ (by with_unfolding_all rfl)
  refine wpAny_getItem_list_slice ht.isList (Heap.IsSliceOf.new ..) .none .none pk (by decide) ?_ (by rw [List.size_toArray] <;> omega)
  rw [PySem.W.krv_pick]
  refine ⟨.ref _, _, I4.laid (t' := s3.toks) (o := .lst xs.reverse) (fun b ob q => Heap.get?_push_of_some _ q) (Nat.le_refl _) ?_, rfl, q _ (I4.hok.fresh (Nat.le_refl _))⟩
  refine ⟨by rw [List.length_reverse]; exact hz, _, 0, r.reverse, Heap.get?_push_size _ rfl⟩
end My
set_option maxHeartbeats 3200000
/-! len(set(xs)), xs a list or tuple of texts, any of them twice -/
namespace My
open PySem PySem.Spec PyProof.Rows L2
section
variable {κ : Type} [DecidableEq κ]
/-- what is in the set when i items were put into it; how many -/
def memOf (key : Nat → κ) : Nat → κ → Bool
  | 0, _ => false
  | i + 1, k => memOf key i k || decide (k = key i)
def cntOf (key : Nat → κ) : Nat → Nat
  | 0 => 0
  | i + 1 => if memOf key i (key i) then cntOf key i else cntOf key i + 1
theorem cntOf_le (key : Nat → κ) : ∀ i, cntOf key i ≤ i
  | 0 => Nat.le_refl 0
  | i + 1 => by
    have := cntOf_le key i
    unfold cntOf
    split <;> omega
theorem memOf_iff (key : Nat → κ) (k : κ) : ∀ i, memOf key i k = true ↔ ∃ j, j < i ∧ key j = k
  | 0 => ⟨fun z => (by cases z), fun ⟨j, z, _⟩ => (by omega)⟩
  | i + 1 => by
    have ih := memOf_iff key k i
    unfold memOf
    rw [Bool.or_eq_true, ih, decide_eq_true_eq]
    constructor
    · rintro (⟨j, h1, h2⟩ | h)
      · exact ⟨j, by omega, h2⟩
      · exact ⟨i, by omega, h.symm⟩
    · rintro ⟨j, h1, h2⟩
      by_cases e : j = i
      · exact .inr (by rw [← h2, e])
      · exact .inl ⟨j, by omega, h2⟩
/-- all different: as many as items -/
theorem cntOf_all (key : Nat → κ) : ∀ n, cntOf key n = n ↔ ∀ i j, i < j → j < n → key i ≠ key j
  | 0 => ⟨fun _ i j _ h => by omega, fun _ => rfl⟩
  | n + 1 => by
    have ih := cntOf_all key n
    have le := cntOf_le key n
    have mi := memOf_iff key (key n) n
    unfold cntOf
    constructor
    · intro h i j ij jn
      split at h
      · omega
      · rename_i hm
        by_cases e : j = n
        · subst e
          exact fun q => hm (mi.mpr ⟨i, ij, q⟩)
        · exact ih.mp (by omega) i j ij (by omega)
    · intro h
      rw [if_neg fun hm => by
        obtain ⟨j, h1, h2⟩ := mi.mp hm
        exact h j n h1 (by omega) h2]
      rw [ih.mpr fun i j ij jn => h i j ij (by omega)]
end
section
variable {prog : Program} {w : World} {κ : Type} [DecidableEq κ] [BEq κ] [LawfulBEq κ] {knd : KeyKind prog w κ}
theorem kept_set {h h' : Heap} {S : Addr} {f : κ → Bool} {m : Nat} (x : h.SetOf knd S f m) (k : ∀ o, h.get? S = some o → h'.get? S = some o) : h'.SetOf knd S f m := by
  obtain ⟨o, es, ep, t, e, rest⟩ := x
  exact ⟨o, es, ep, t, k o e, rest⟩
variable {A : Around} {R : Result → Shared → Prop} {I S : Addr} {fp wr : List Addr} {G : Array GenState → Array GenState → Prop} {n : Nat} {P : Nat → Value → Prop} {St : Nat → Shared → Prop}
/-- the turns that put all items into the set at S -/
theorem put_all (W : WalksS prog w A.in1 I fp wr G n P St) (out : S ∉ fp) (key : Nat → κ) (is : ∀ i v, P i v → knd.is (key i) v = true ∧ v.scannable = true) (room : n + 1 < scanBound) (left : Nat) :
    ∀ (i : Nat) (s : Shared), i + left = n → St i s → s.heap.SetOf knd S (memOf key i) (cntOf key i) →
      (∀ s', Moved (S :: wr) G s s' → s'.heap.SetOf knd S (memOf key n) (cntOf key n) → R (.ok (.ret .none)) s') → codeAny (model prog w) A (.builtin "set.update.loop" ⟨[.ref S, .ref I], []⟩) R s := by
  have outW : S ∉ wr := fun z => out (W.sub _ z)
  have more : ∀ b ∈ wr, b ∈ S :: wr := fun b z => .tail _ z
  induction left with
  | zero =>
    intro i s il st has fin
    obtain rfl : i = n := il
    refine codeAny_builtin F.entry_set_update_loop ?_
    rw [A.under_plainId F.plain_set_update_loop _]
    refine wpAny_bind (m := pyNext (.ref I)) (W.done s _ _ st fun s1 mv => ?_)
    exact wpAny_pure (fin s1 (mv.mono more) (kept_set has fun o e => mv.heap S o outW e))
  | succ left ih =>
    intro i s il st has fin
    refine codeAny_builtin F.entry_set_update_loop ?_
    rw [A.under_plainId F.plain_set_update_loop _]
    refine wpAny_bind (m := pyNext (.ref I)) (W.item i s _ _ (by omega) st fun v s1 item st1 mv => ?_)
    obtain ⟨isv, sc⟩ := is i v item
    have has1 := kept_set has fun o e => mv.heap S o outW e
    refine wpAny_bind (m := holding [v] (setAdd S v)) (wpAny_holding ?_)
    refine wpAny_holding (wpAny_bind (knd.pyHash isv ?_))
    have := cntOf_le key i
    refine wpAny_setAddHashed_of (s := { s1 with toks := s1.toks + 1 }) isv sc has1 (by omega) fun h2 but has2 => wpAny_pure ⟨plainId_quiet F.plain_set_update_loop _, ?_⟩
    refine ih (i + 1) _ (by omega) (W.frame _ s1 _ _ st1 (Nat.le_succ _) fun b inb o e => ?_) has2 fun s3 mv3 has3 => fin s3 (Moved.trans W.gtrans ((mv.mono more).then_heap (Nat.le_succ _) fun b o nb e => ?_) mv3) has3
    · rw [but.2 b fun z => out (z ▸ inb)]
      exact e
    · rw [but.2 b fun z => nb (z ▸ .head _)]
      exact e
end
/-! the call -/
set_option maxHeartbeats 6400000 in
theorem set_of_list {prog : Program} {w : World} {A : Around} {E : Value → Shared → Prop} {s : Shared} {κ : Type} [DecidableEq κ] [BEq κ] [LawfulBEq κ] {knd : KeyKind prog w κ} {l : Addr} {items : Array Value} {Q : Value → Shared → Prop} (hh : A.handled = none) (src : s.heap.IsList l items) (key : Nat → κ)
    (is : ∀ (i : Nat) v, items[i]? = some v → knd.is (key i) v = true ∧ v.scannable = true) (room : items.size + 1 < scanBound)
    (post : ∀ (h' : Heap) (tk : Nat), h'.SetOf knd s.heap.objs.size (memOf key items.size) (cntOf key items.size) → (∀ b o, s.heap.get? b = some o → h'.get? b = some o) → Q (.ref s.heap.objs.size) { s with heap := h', toks := tk }) :
    wpAny (model prog w) A (call (.type "set") [.ref l]) Q E s := by
  obtain ⟨mc, mt, mro⟩ := PySem.F.called_set.mro
  have made := PySem.F.called_set.made
  have sub := PySem.F.called_set.sub
  have noT := PySem.F.called_set.notType
  have can := PySem.F.called_set.canCreate
  have chk := PySem.F.typeCall_set_1 (.ref l)
  refine wpAny_call (codeAny_of_tree (show wpAny _ _ (callAny (.type "set") _) _ _ _ from ?_))
  refine wpAny_pure ⟨Code.quiet_builtin _ (by decide +kernel), codeAny_builtin PySem.F.entry_type_call ?_⟩
  rw [A.under_plain (weight_type_call_type "set" [.ref l] []) rfl]
  repeat (any_goals (first | assumption | wp_step))
  let mkO : Bool → Obj := fun led => { cls := .type "set", dict := none, data := .set #[] 0 (.fresh 0 0 led) }
  refine codeAny_mono (code_set_new_1 (.ref l) (E := E) (Q₁ := fun v s1 => ∃ led, v = .ref s.heap.objs.size ∧ s1 = { s with heap := s.heap.push (mkO led) }) fun led => ⟨led, rfl, rfl⟩) fun r0 s0 hr0 => ?_
  match r0, hr0 with
  | .error e, hr0 => exact hr0
  | .ok (.ret v), hr0 =>
    obtain ⟨led, rfl, rfl⟩ := hr0
    have at0 : (s.heap.push (mkO led)).get? s.heap.objs.size = some (mkO led) := Heap.get?_push_size _ rfl
    have ty0 : Shared.TypeIs { s with heap := s.heap.push (mkO led) } (.ref s.heap.objs.size) "set" := ⟨_, at0, rfl⟩
    have ini := PySem.F.called_set.init.lookup
    have bnd := PySem.F.called_set.init.bind (.ref s.heap.objs.size)
    repeat (any_goals (first | assumption | wp_step))
    refine codeAny_mono (codeAny_call_builtin (R := wants (fun r s2 => r = .none ∧ ∃ h' tk, s2 = { s with heap := h', toks := tk } ∧ h'.SetOf knd s.heap.objs.size (memOf key items.size) (cntOf key items.size) ∧ ∀ b o, s.heap.get? b = some o → h'.get? b = some o) E)
      PySem.F.called_set.init.plain PySem.F.entry_set_init (check_set_init_1 ty0 ?_)) fun r2 s2 hr2 => ?_
    · obtain ⟨⟨oc, od, odt, osl⟩, ho, e1, nl, e2⟩ := src
      dsimp only at e1 e2
      subst e1
      subst e2
      have ho1 := Heap.get?_push_of_some (mkO led) ho
      have q1 := PySem.F.sub_list_set
      have q2 := PySem.F.sub_list_frozenset
      have q3 : (Value.type "list" == Value.type "dict") = false := by decide
      have src1 : (s.heap.push (mkO led)).IsList l items := ⟨_, ho1, rfl, nl, rfl⟩
      unfold Builtin.«set.__init__» Builtin.Frozenset.updateFrom noKeywords
      generalize hPI : pyIter = PI
      wp_walk
      subst hPI
      refine wpAny_pyIter_list src1 (wpAny_bind (wpAny_runValue ?_))
      have lt := Heap.lt_size ho
      have hd3 : A.in1.in1.in1.handled = none := by simp [hh]
      have ne1 : l ≠ (s.heap.push (mkO led)).objs.size := by
        rw [Heap.size_push]
        exact Nat.ne_of_lt (Nat.lt_succ_of_lt lt)
      have out : s.heap.objs.size ∉ [(s.heap.push (mkO led)).objs.size, l] := by
        rw [Heap.size_push]
        simp only [List.mem_cons, List.not_mem_nil, or_false, not_or]
        exact ⟨Nat.ne_of_lt (Nat.lt_succ_self _), Nat.ne_of_gt lt⟩
      refine put_all (W := (Walks.list hd3 _ l ne1 items).toS) out key is room items.size 0 _ (Nat.zero_add _) ⟨⟨_, Heap.get?_push_size _ rfl, rfl, rfl⟩, src1.push _⟩ ?_ ?_
      · have at1 := Heap.get?_push_of_some ({ cls := .type "list_iterator", data := .fields #[.ref l, .int 0 0] } : Obj) at0
        exact (setObjOf_fresh (knd := knd) led).setOf at1 (by unfold scanBound; omega)
      · rintro ⟨h', g', d', tk', os'⟩ mv has
        obtain rfl : g' = s.gens := mv.gens
        obtain rfl : d' = s.drawn := mv.drawn
        obtain rfl : os' = s.os := mv.os
        refine wpAny_pure (wpAny_pure ⟨rfl, h', tk', rfl, has, fun b o e => ?_⟩)
        have ltb := Heap.lt_size e
        refine mv.heap b o ?_ (Heap.get?_push_of_some _ (Heap.get?_push_of_some _ e))
        rw [Heap.size_push]
        simp only [List.mem_cons, List.not_mem_nil, or_false, not_or]
        exact ⟨Nat.ne_of_lt ltb, Nat.ne_of_lt (Nat.lt_succ_of_lt ltb)⟩
    · match r2, hr2 with
      | .error e, hr2 => exact hr2
      | .ok (.ret r), hr2 =>
        obtain ⟨rfl, h', tk, rfl, has, keep⟩ := hr2
        repeat (any_goals (first | assumption | wp_step))
        exact post _ _ has keep
      | .ok .next, hr2 => exact hr2.elim
      | .ok .brk, hr2 => exact hr2.elim
      | .ok .cont, hr2 => exact hr2.elim
  | .ok .next, hr0 => exact hr0.elim
  | .ok .brk, hr0 => exact hr0.elim
  | .ok .cont, hr0 => exact hr0.elim
set_option maxHeartbeats 6400000 in
theorem set_of_tuple {prog : Program} {w : World} {A : Around} {E : Value → Shared → Prop} {s : Shared} {κ : Type} [DecidableEq κ] [BEq κ] [LawfulBEq κ] {knd : KeyKind prog w κ} {l : Addr} {items : Array Value} {Q : Value → Shared → Prop} (hh : A.handled = none) (src : s.heap.IsTuple l items) (key : Nat → κ)
    (is : ∀ (i : Nat) v, items[i]? = some v → knd.is (key i) v = true ∧ v.scannable = true) (room : items.size + 1 < scanBound)
    (post : ∀ (h' : Heap) (tk : Nat), h'.SetOf knd s.heap.objs.size (memOf key items.size) (cntOf key items.size) → (∀ b o, s.heap.get? b = some o → h'.get? b = some o) → Q (.ref s.heap.objs.size) { s with heap := h', toks := tk }) :
    wpAny (model prog w) A (call (.type "set") [.ref l]) Q E s := by
  obtain ⟨mc, mt, mro⟩ := PySem.F.called_set.mro
  have made := PySem.F.called_set.made
  have sub := PySem.F.called_set.sub
  have noT := PySem.F.called_set.notType
  have can := PySem.F.called_set.canCreate
  have chk := PySem.F.typeCall_set_1 (.ref l)
  refine wpAny_call (codeAny_of_tree (show wpAny _ _ (callAny (.type "set") _) _ _ _ from ?_))
  refine wpAny_pure ⟨Code.quiet_builtin _ (by decide +kernel), codeAny_builtin PySem.F.entry_type_call ?_⟩
  rw [A.under_plain (weight_type_call_type "set" [.ref l] []) rfl]
  repeat (any_goals (first | assumption | wp_step))
  let mkO : Bool → Obj := fun led => { cls := .type "set", dict := none, data := .set #[] 0 (.fresh 0 0 led) }
  refine codeAny_mono (code_set_new_1 (.ref l) (E := E) (Q₁ := fun v s1 => ∃ led, v = .ref s.heap.objs.size ∧ s1 = { s with heap := s.heap.push (mkO led) }) fun led => ⟨led, rfl, rfl⟩) fun r0 s0 hr0 => ?_
  match r0, hr0 with
  | .error e, hr0 => exact hr0
  | .ok (.ret v), hr0 =>
    obtain ⟨led, rfl, rfl⟩ := hr0
    have at0 : (s.heap.push (mkO led)).get? s.heap.objs.size = some (mkO led) := Heap.get?_push_size _ rfl
    have ty0 : Shared.TypeIs { s with heap := s.heap.push (mkO led) } (.ref s.heap.objs.size) "set" := ⟨_, at0, rfl⟩
    have ini := PySem.F.called_set.init.lookup
    have bnd := PySem.F.called_set.init.bind (.ref s.heap.objs.size)
    repeat (any_goals (first | assumption | wp_step))
    refine codeAny_mono (codeAny_call_builtin (R := wants (fun r s2 => r = .none ∧ ∃ h' tk, s2 = { s with heap := h', toks := tk } ∧ h'.SetOf knd s.heap.objs.size (memOf key items.size) (cntOf key items.size) ∧ ∀ b o, s.heap.get? b = some o → h'.get? b = some o) E)
      PySem.F.called_set.init.plain PySem.F.entry_set_init (check_set_init_1 ty0 ?_)) fun r2 s2 hr2 => ?_
    · obtain ⟨⟨oc, od, odt, osl⟩, ho, e1, nl, e2⟩ := src
      dsimp only at e1 e2
      subst e1
      subst e2
      have ho1 := Heap.get?_push_of_some (mkO led) ho
      have q1 := PySem.F.sub_tuple_set
      have q2 := PySem.F.sub_tuple_frozenset
      have q3 : (Value.type "tuple" == Value.type "dict") = false := by decide
      have src1 : (s.heap.push (mkO led)).IsTuple l items := ⟨_, ho1, rfl, nl, rfl⟩
      unfold Builtin.«set.__init__» Builtin.Frozenset.updateFrom noKeywords
      generalize hPI : pyIter = PI
      wp_walk
      subst hPI
      refine wpAny_pyIter_tuple src1 (wpAny_bind (wpAny_runValue ?_))
      have lt := Heap.lt_size ho
      have hd3 : A.in1.in1.in1.handled = none := by simp [hh]
      have ne1 : l ≠ (s.heap.push (mkO led)).objs.size := by
        rw [Heap.size_push]
        exact Nat.ne_of_lt (Nat.lt_succ_of_lt lt)
      have out : s.heap.objs.size ∉ [(s.heap.push (mkO led)).objs.size, l] := by
        rw [Heap.size_push]
        simp only [List.mem_cons, List.not_mem_nil, or_false, not_or]
        exact ⟨Nat.ne_of_lt (Nat.lt_succ_self _), Nat.ne_of_gt lt⟩
      refine put_all (W := (Walks.tuple hd3 _ l ne1 items).toS) out key is room items.size 0 _ (Nat.zero_add _) ⟨⟨_, Heap.get?_push_size _ rfl, rfl, rfl⟩, src1.push _⟩ ?_ ?_
      · have at1 := Heap.get?_push_of_some ({ cls := .type "tuple_iterator", data := .fields #[.ref l, .int 0 0] } : Obj) at0
        exact (setObjOf_fresh (knd := knd) led).setOf at1 (by unfold scanBound; omega)
      · rintro ⟨h', g', d', tk', os'⟩ mv has
        obtain rfl : g' = s.gens := mv.gens
        obtain rfl : d' = s.drawn := mv.drawn
        obtain rfl : os' = s.os := mv.os
        refine wpAny_pure (wpAny_pure ⟨rfl, h', tk', rfl, has, fun b o e => ?_⟩)
        have ltb := Heap.lt_size e
        refine mv.heap b o ?_ (Heap.get?_push_of_some _ (Heap.get?_push_of_some _ e))
        rw [Heap.size_push]
        simp only [List.mem_cons, List.not_mem_nil, or_false, not_or]
        exact ⟨Nat.ne_of_lt ltb, Nat.ne_of_lt (Nat.lt_succ_of_lt ltb)⟩
    · match r2, hr2 with
      | .error e, hr2 => exact hr2
      | .ok (.ret r), hr2 =>
        obtain ⟨rfl, h', tk, rfl, has, keep⟩ := hr2
        repeat (any_goals (first | assumption | wp_step))
        exact post _ _ has keep
      | .ok .next, hr2 => exact hr2.elim
      | .ok .brk, hr2 => exact hr2.elim
      | .ok .cont, hr2 => exact hr2.elim
  | .ok .next, hr0 => exact hr0.elim
  | .ok .brk, hr0 => exact hr0.elim
  | .ok .cont, hr0 => exact hr0.elim
/-- len(set(xs)), xs a list or tuple of texts -/
def tLenSetT (K : PySem.W.Frag) (ta : TE) : TE := fun σ H Q => ta σ H fun x H1 => ∃ (l : Addr) (xs : List Str), x = .ref l ∧ (SqL K H1 l (xs.map V.str) ∨ SqT K H1 l (xs.map V.str)) ∧ xs.length ≤ 1000 ∧ Q (.int (cntOf (fun i => xs.getD i Str.empty) xs.length : Nat)) H1
theorem pe_lenSetT {X : Cx} {a : Expr} {ta : TE} {p p2 q pos : Pos} (hg : Gl X "len") (hm : X.mg "len" = none) (hg2 : Gl X "set") (hm2 : X.mg "set" = none) (ha : PE X a ta) (hc : X.calm = true := by rfl)
    (na : starEach [a] X.env = (false, eval a X.env) :: starEach [] X.env := by rfl) : PE X (.Call (.Name "len" p) [.Call (.Name "set" p2) [a] [] q] [] pos) (tLenSetT X.K ta) := by
  refine ⟨fun pins s σ H Q I h => Call_ (ld_blt I hg hm boot_len (callWith_builtin1 (args_cons ?_ rfl) rfl rfl))⟩
  refine Call_ (ld_blt I hg2 hm2 boot_set (callWith_type1 (args_cons (thn (ha.run pins s σ H _ I h) fun v s1 ⟨x, H1, I1, r1, l, xs, e, sq, short, done⟩ => args_nil ?_) na) na rfl))
  subst e
  cases r1
  have fin : ∀ its : List Value, Vals (xs.map V.str) its → ∀ (h' : Heap) (tk : Nat), h'.SetOf (PySem.strKind X.prog X.w) s1.heap.objs.size (memOf (fun i => xs.getD i Str.empty) its.toArray.size) (cntOf (fun i => xs.getD i Str.empty) its.toArray.size) →
      (∀ b o, s1.heap.get? b = some o → h'.get? b = some o) → wpAny (model X.prog X.w) X.A (spliced (backTo pos (starEach [] X.env))) (fun vs s₂ => wpAny (model X.prog X.w) X.A (call (.builtin "len") (Value.ref s1.heap.objs.size :: vs)) (EP X pins σ Q) X.xe s₂) X.xe { s1 with heap := h', toks := tk } := by
    intro its r h' tk has keep
    have many : its.toArray.size = xs.length := by
      rw [List.size_toArray, ← r.length, List.length_map]
    rw [many] at has
    obtain ⟨o, es, ep, t, ho, ex, hd, _, _, _, hf, hn⟩ := has
    have le := cntOf_le (fun i => xs.getD i Str.empty) xs.length
    refine args_nil (call_len_set ho ex hd hf (by rw [hn]; omega) ⟨.int (cntOf (fun i => xs.getD i Str.empty) xs.length : Nat), H1, (I1.kept keep).tok _, ⟨_, by rw [hn]⟩, done⟩)
  have texts : ∀ its : List Value, Vals (xs.map V.str) its → ∀ (i : Nat) v, its.toArray[i]? = some v → (PySem.strKind X.prog X.w).is (xs.getD i Str.empty) v = true ∧ v.scannable = true := by
    intro its r i v hv
    rw [List.getElem?_toArray] at hv
    have hi : i < xs.length := by
      have := r.length
      rw [List.length_map] at this
      rw [this]
      exact (List.getElem?_eq_some_iff.mp hv).1
    obtain ⟨u, hu, ru⟩ := r.get (show (xs.map V.str)[i]? = some (.str xs[i]) by rw [List.getElem?_map, List.getElem?_eq_getElem hi]; rfl)
    rw [hv] at hu
    cases hu
    obtain ⟨t, rfl⟩ := ru
    rw [List.getD_eq_getElem?_getD, List.getElem?_eq_getElem hi]
    exact ⟨by simp [PySem.strKind, Value.isStrOf], rfl⟩
  rcases sq with sq | sq
  · obtain ⟨its, r, pl, hz⟩ := I1.list sq
    have many := r.length
    rw [List.length_map] at many
    exact set_of_list (I1.ok.hd hc) pl.isList _ (texts its r) (by rw [List.size_toArray, ← many]; unfold scanBound; omega) (fin its r)
  · obtain ⟨its, r, pl, hz⟩ := I1.tuple sq
    have many := r.length
    rw [List.length_map] at many
    exact set_of_tuple (I1.ok.hd hc) pl _ (texts its r) (by rw [List.size_toArray, ← many]; unfold scanBound; omega) (fin its r)
end My
set_option maxHeartbeats 4000000
namespace K54
open PySem PySem.Spec PyProof.Rows L2 Evl My LamX
def top (i : Nat) : Stmt := PySem.Challenge.pw_maskededits_k54_records_in_order.main.body.getD i (.Pass ⟨0, 0, 0, 0⟩)
abbrev sWord : Stmt := top 10
abbrev sTake : Stmt := top 24
/-! ### what is a word, a mark, a name: of data -/
def LET : Str := "abcdefghijklmnopqrstuvwxyz"
def DIG : Str := "0123456789"
def isStr : PyData → Bool
  | .str _ => true
  | _ => false
def isTup : PyData → Bool
  | .tuple _ => true
  | _ => false
def lenOk : PyData → Bool
  | .str s => decide (1 ≤ s.length) && decide (s.length ≤ 8)
  | _ => false
def signIn (z : Str) : PyData → Bool
  | .str s => match s.cps.toList with
    | [c] => decide (c ∈ z.cps.toList)
    | _ => false
  | _ => false
def allIn (z : Str) : PyData → Bool
  | .str s => s.cps.toList.all fun c => decide (c ∈ z.cps.toList)
  | _ => false
def wordD (d : PyData) : Bool := isStr d && lenOk d && allIn LET d
def emptyD : PyData → Bool
  | .str s => decide (s = "")
  | _ => false
def srcD (d : PyData) : Bool := isStr d && (emptyD d || wordD d)
def intD : PyData → Bool
  | .int _ => true
  | _ => false
def rangeD : PyData → Bool
  | .int i => decide (1 ≤ i) && decide (i ≤ 1000000000000000000)
  | _ => false
def markD : PyData → Bool
  | .tuple [a, b, c] => wordD a && srcD b && rangeD c
  | _ => false
def nameD : PyData → Bool
  | .tuple ds => ds.all markD
  | _ => false
def okS (s : Str) : Bool := decide (s.length ≤ 10000) && PyData.strOk s
mutual
/-- texts and rows of a size that can be handled -/
def small : PyData → Bool
  | .none => true
  | .bool _ => true
  | .int _ => true
  | .str s => okS s
  | .tuple ds => decide (ds.length ≤ 1000) && smalls ds
  | .list ds => decide (ds.length ≤ 1000) && smalls ds
  | .dict _ => true
def smalls : List PyData → Bool
  | [] => true
  | d :: ds => small d && smalls ds
end
theorem smalls_of : ∀ {ds : List PyData} {d : PyData}, smalls ds = true → d ∈ ds → small d = true
  | e :: ds, d, h, m => by
    have h2 : (small e && smalls ds) = true := h
    rw [Bool.and_eq_true] at h2
    rcases List.mem_cons.mp m with z | z
    · rw [z]
      exact h2.1
    · exact smalls_of h2.2 z
theorem small_tup {ds : List PyData} (h : small (.tuple ds) = true) : ds.length ≤ 1000 ∧ ∀ d ∈ ds, small d = true := by
  have h2 : (decide (ds.length ≤ 1000) && smalls ds) = true := h
  rw [Bool.and_eq_true, decide_eq_true_eq] at h2
  exact ⟨h2.1, fun d m => smalls_of h2.2 m⟩
theorem okS_len {s : Str} (h : okS s = true) : s.length ≤ 10000 := of_decide_eq_true (Bool.and_eq_true_iff.mp h).1
theorem okS_ok {s : Str} (h : okS s = true) : PyData.strOk s = true := (Bool.and_eq_true_iff.mp h).2
theorem small_str {s : Str} (h : small (.str s) = true) : s.length ≤ 10000 := okS_len h
theorem isStr_kit (d : PyData) : kitB (tyD d) "str" = some (isStr d) := match d with
  | .none => (by decide +kernel : kitB "NoneType" "str" = some false)
  | .bool b => (by decide +kernel : kitB "bool" "str" = some false)
  | .int i => (by decide +kernel : kitB "int" "str" = some false)
  | .str s => (by decide +kernel : kitB "str" "str" = some true)
  | .list s => (by decide +kernel : kitB "list" "str" = some false)
  | .tuple s => (by decide +kernel : kitB "tuple" "str" = some false)
  | .dict s => (by decide +kernel : kitB "dict" "str" = some false)
theorem isTup_kit (d : PyData) : kitB (tyD d) "tuple" = some (isTup d) := match d with
  | .none => (by decide +kernel : kitB "NoneType" "tuple" = some false)
  | .bool b => (by decide +kernel : kitB "bool" "tuple" = some false)
  | .int i => (by decide +kernel : kitB "int" "tuple" = some false)
  | .str s => (by decide +kernel : kitB "str" "tuple" = some false)
  | .list s => (by decide +kernel : kitB "list" "tuple" = some false)
  | .tuple s => (by decide +kernel : kitB "tuple" "tuple" = some true)
  | .dict s => (by decide +kernel : kitB "dict" "tuple" = some false)
def isInt : PyData → Bool
  | .int _ => true
  | .bool _ => true
  | _ => false
def isBool : PyData → Bool
  | .bool _ => true
  | _ => false
theorem isInt_kit (d : PyData) : kitB (tyD d) "int" = some (isInt d) := match d with
  | .none => (by decide +kernel : kitB "NoneType" "int" = some false)
  | .bool b => (by decide +kernel : kitB "bool" "int" = some true)
  | .int i => (by decide +kernel : kitB "int" "int" = some true)
  | .str s => (by decide +kernel : kitB "str" "int" = some false)
  | .list s => (by decide +kernel : kitB "list" "int" = some false)
  | .tuple s => (by decide +kernel : kitB "tuple" "int" = some false)
  | .dict s => (by decide +kernel : kitB "dict" "int" = some false)
theorem isBool_kit (d : PyData) : kitB (tyD d) "bool" = some (isBool d) := match d with
  | .none => (by decide +kernel : kitB "NoneType" "bool" = some false)
  | .bool b => (by decide +kernel : kitB "bool" "bool" = some true)
  | .int i => (by decide +kernel : kitB "int" "bool" = some false)
  | .str s => (by decide +kernel : kitB "str" "bool" = some false)
  | .list s => (by decide +kernel : kitB "list" "bool" = some false)
  | .tuple s => (by decide +kernel : kitB "tuple" "bool" = some false)
  | .dict s => (by decide +kernel : kitB "dict" "bool" = some false)
theorem notF {b : Bool} (h : (!b) = false) : b = true := by
  cases b
  · cases h
  · rfl
theorem isStr_is {d : PyData} (h : isStr d = true) : ∃ s, d = .str s := by
  cases d <;> first | exact ⟨_, rfl⟩ | cases h
theorem isTup_is {d : PyData} (h : isTup d = true) : ∃ s, d = .tuple s := by
  cases d <;> first | exact ⟨_, rfl⟩ | cases h
theorem all_signs (z s : Str) : ((signsD s).map (signIn z)).all id = allIn z (.str s) := by
  unfold signsD
  rw [List.map_map, List.all_map]
  rfl

structure Txt (mg : Str → Option Value) : Prop where
  len : mg "len" = none
  all : mg "all" = none
  isn : mg "isinstance" = none
  str : mg "str" = none
  lst : mg "list" = none
  tup : mg "tuple" = none
  set : mg "set" = none
  rng : mg "range" = none
  max : mg "max" = none
  min : mg "min" = none
  rep : mg "repr" = none
  letters : ∃ u, mg "LETTERS" = some u ∧ RelV (.str LET) u
  longest : ∃ u, mg "LONGEST_WORD" = some u ∧ RelV (.int 8) u
  most : ∃ u, mg "MOST_LEVELS" = some u ∧ RelV (.int 8) u

section
variable {K : PySem.W.Frag} {σ : L2.St} {H : Hp} {ta tb tc te : TE}
theorem et_chain {i j k : Int} (ha : Ev ta σ H (.int i)) (hb : Ev tb σ H (.int j)) (hc : Ev tc σ H (.int k)) :
    EvT (tTest (tChain (rI0 fun i j => .bl (decide (i ≤ j))) (rI0 fun i j => .bl (decide (i ≤ j))) ta tb tc)) σ H (decide (i ≤ j) && decide (j ≤ k)) := fun H1 e Q q =>
  ha H1 e _ fun H2 e2 => hb H2 (e.trans e2) _ fun H3 e3 => ⟨i, j, rfl, rfl, decide (i ≤ j), rfl, by
    cases h : decide (i ≤ j) with
    | true => exact hc H3 ((e.trans e2).trans e3) _ fun H4 e4 => ⟨j, k, rfl, rfl, decide (j ≤ k), rfl, by
        have z := q H4 ((e2.trans e3).trans e4)
        rw [h] at z
        exact z⟩
    | false => exact ⟨false, rfl, by
        have z := q H3 (e2.trans e3)
        rw [h] at z
        exact z⟩⟩
theorem ev_chain {i j k : Int} (ha : Ev ta σ H (.int i)) (hb : Ev tb σ H (.int j)) (hc : Ev tc σ H (.int k)) :
    Ev (tChain (rI0 fun i j => .bl (decide (i ≤ j))) (rI0 fun i j => .bl (decide (i ≤ j))) ta tb tc) σ H (.bl (decide (i ≤ j) && decide (j ≤ k))) := fun H1 e Q q =>
  ha H1 e _ fun H2 e2 => hb H2 (e.trans e2) _ fun H3 e3 => ⟨i, j, rfl, rfl, decide (i ≤ j), rfl, by
    cases h : decide (i ≤ j) with
    | true => exact hc H3 ((e.trans e2).trans e3) _ fun H4 e4 => ⟨j, k, rfl, rfl, by
        have z := q H4 ((e2.trans e3).trans e4)
        rw [h] at z
        exact z⟩
    | false =>
        have z := q H3 (e2.trans e3)
        rw [h] at z
        exact z⟩
theorem ed_all {bs : List Bool} (h : EvDL K te σ H (bs.map PyData.bool)) : Ev (tCB (rAll K) (tCons te tNil)) σ H (.bl (bs.all id)) := fun H1 e Q q =>
  h H1 e _ fun p xs H2 _ e2 hx g => ⟨p, bs, rfl, by rw [← g.bls]; exact sq_of hx, q H2 e2⟩
theorem et_yes : EvT tYes σ H true := fun H1 _ _ q => q H1 (Ex.refl H1)
theorem ev_inS {c : Nat} {z : Str} (ha : Ev ta σ H (.str ⟨#[c]⟩)) (hb : Ev tb σ H (.str z)) : Ev (tOp rInS ta tb) σ H (.bl (decide (c ∈ z.cps.toList))) :=
  ev_op ha hb (rv_val fun H1 _ Q q => ⟨c, z, rfl, rfl, q⟩)
/-- [sign in z for sign in text] -/
theorem edl_signs {tl : TE} {s z : Str} {j : Nat} {vs : List Nat} {tz : TE} (h : Ev tl σ H (.str s)) (hs : s.length ≤ 10000) (hw : ∀ x, wipe ((wipe σ vs).set j (some x)) vs = wipe σ vs)
    (hj : ∀ x, ((wipe σ vs).set j (some x))[j]? = some (some x)) (hz : ∀ x H1, Ev tz ((wipe σ vs).set j (some x)) H1 (.str z)) :
    EvDL K (tLc (iStr tl) (gName j) tYes (tOp rInS (tVar j) tz) vs) σ H (((signsD s).map (signIn z)).map PyData.bool) := by
  have len : (signsD s).length ≤ 40000 := by
    have e : (signsD s).length = s.length := by simp [signsD, Str.length]
    omega
  have r := edl_lc (K := K) (tt := tYes) (te := tOp rInS (tVar j) tz) (fun _ => true) (fun d => .bool (signIn z d)) (it_S h) len (fun _ _ _ => rfl) hw (fun _ _ _ _ _ _ => et_yes) (fun x d H1 _ hm g _ => by
    unfold signsD at hm
    rw [List.mem_map] at hm
    obtain ⟨c, _, rfl⟩ := hm
    cases g
    exact ed_bl (ev_inS (ev_var (hj _)) (hz _ _)))
  rw [List.filter_eq_self.mpr (fun _ _ => rfl)] at r
  rw [List.map_map]
  exact r
end

section
variable {P : Program} {w : World} {K : PySem.W.Frag} {mg : Str → Option Value} {base : Heap} {f : Addr} {fd : FuncData}
theorem scWord : FnScope ["thing", "sign"] ["thing"] (defScope sWord) := ⟨rfl, rfl, rfl, by decide +kernel, rfl, by decide +kernel, by decide +kernel⟩
theorem ok_word (F : Fun K "is_word" "is_word" sWord f fd) (T : Txt mg) : FnOk P w K mg base CX0 1 f fd ["thing"] (spD K (fun ds => ∃ d, ds = [d] ∧ small d = true) fun ds => .bool (wordD (ds.headD .none))) := by
  refine F.ok scWord (fun vs H Q E h => ?_) (fun cdv A outer s H vs Q E hr h => ?_)
  · obtain ⟨_, g, ⟨d, rfl, _⟩, _⟩ := h
    exact g.len
  · obtain ⟨_, g, ⟨d, rfl, hd⟩, kQ⟩ := h
    cases g with
    | @cons v _ _ _ g1 g2 =>
    cases g2
    refine ⟨_, pss_cons (ps_if (PW.pt (pw_or (pt_not (pt_val (pe_callB call_isi (by rfl) T.isn (by decide +kernel) (pa_cons (pv 0) (pa_cons (pe_bltn (v := .ty "str") (by rfl) T.str (by decide +kernel) rfl) pa_nil)))))
        (pw_or1 (pt_not (pt_chain op_le op_le pe_int (pe_callB call_len (by rfl) T.len (by decide +kernel) (pa_cons (pv 0) pa_nil)) (C8.pe_gc (v := .int 8) rfl T.longest)))))) (pss_one (ps_ret pe_bl)) pss_nil)
      (pss_one (ps_ret (pe_callB (cr_all rfl) (by rfl) T.all (by decide +kernel) (pa_cons
        (pe_lc (own := [("sign", 1)]) (g := gName 1) (tt := tYes) (te := tOp rInS (tVar 1) (tC (.str LET))) rfl scWord.nd (pi_str (pv 0)) (blkOk_by (own := [("sign", 1)]) (N := ["thing", "sign"]) (sc := defScope sWord) (by decide +kernel))
          (fun _ _ _ _ _ => pg_name (i := 1) scWord.nd rfl (Or.inl rfl)) (fun _ _ _ _ _ => pts_nil) (fun _ _ _ _ _ => pe_cmpR op_inS (pv 1) (C8.pe_gc (v := .str LET) rfl T.letters) rfl)) pa_nil)))), ?_⟩
    have c1 : ∀ (H1 : Hp), Ex H H1 → EvT (tNot (tB (tCB (rIsi K) (tCons (tVar 0) (tCons (tC (.ty "str")) tNil))))) (start ["thing", "sign"] [v]) H1 (!isStr d) := fun H1 e => et_not (et_B (ed_isi (ed_var rfl (Dd.ext e _ _ g1)) (isStr_kit d)))
    refine q_when (b := !isStr d || !lenOk d) (et_or (c1 H (Ex.refl H)) fun hz => ?_) (fun hb H1 e1 => ?_) (fun hb H1 e1 => ?_)
    · obtain ⟨s, rfl⟩ := isStr_is (notF hz)
      cases g1
      refine et_not (et_is (et_chain ev_c (ed_lenS (K := K) (ev_var rfl) (Nat.le_trans (small_str hd) (by decide))) ev_c) ?_)
      show (decide ((1 : Int) ≤ (s.length : Int)) && decide ((s.length : Int) ≤ 8)) = (decide (1 ≤ s.length) && decide (s.length ≤ 8))
      congr 1 <;> exact decide_eq_decide.mpr (by omega)
    · refine s_retD (ed_bl ev_c) fun u H2 e2 gu => kQ u H2 (e1.trans e2) (by
        have z : wordD d = false := by
          unfold wordD
          cases h1 : isStr d <;> cases h2 : lenOk d <;> rw [h1, h2] at hb <;> first | rfl | cases hb
        show Dd K H2 u (.bool (wordD d))
        rw [z]
        exact gu)
    · have z1 : isStr d = true := by
        cases h1 : isStr d
        · rw [h1] at hb
          cases hb
        · rfl
      have z2 : lenOk d = true := by
        cases h1 : lenOk d
        · rw [z1, h1] at hb
          cases hb
        · rfl
      obtain ⟨s, rfl⟩ := isStr_is z1
      cases g1
      refine s_retD (ed_bl (ed_all (edl_signs (s := s) (z := LET) (ev_var rfl) (small_str hd) (fun _ => rfl) (fun _ => rfl) (fun _ _ => ev_c)))) fun u H2 e2 gu => kQ u H2 (e1.trans e2) (by
        show Dd K H2 u (.bool (wordD (.str s)))
        unfold wordD
        rw [z1, z2, ← all_signs]
        exact gu)
end

def ok1 : List PyData → Prop := fun ds => ∃ d, ds = [d] ∧ small d = true
/-- a def that answers a Bool to a datum -/
def spB (K : PySem.W.Frag) (F : PyData → Bool) : Sp := spD K ok1 fun ds => .bool (F (ds.headD .none))
theorem spB_ok {K : PySem.W.Frag} {F : PyData → Bool} {d : PyData} {b : Bool} (h : small d = true) (e : F d = b) : SpD K (spB K F) [d] (.bool b) := spD_ok ⟨d, rfl, h⟩ (by rw [← e]; rfl)
section
variable {K : PySem.W.Frag} {σ : L2.St} {H : Hp} {te ta tb : TE} {d : PyData}
theorem ev_spB {F : PyData → Bool} {E : XK} (h : EvD K te σ H d) (hd : small d = true) : Ev (tCall (spB K F) [] E (tCons te tNil)) σ H (.bl (F d)) := (ed_call (eds_cons h eds_nil) (spB_ok hd rfl)).bl
end
theorem let_mem : ∀ c : Nat, c ∈ LET.cps.toList → 97 ≤ c ∧ c ≤ 122 := by
  have e : LET.cps.toList = [97, 98, 99, 100, 101, 102, 103, 104, 105, 106, 107, 108, 109, 110, 111, 112, 113, 114, 115, 116, 117, 118, 119, 120, 121, 122] := by decide +kernel
  rw [e]
  intro c h
  simp at h
  omega
/-- a text of small letters -/
def Low (s : Str) : Prop := ∀ c ∈ s.cps.toList, 97 ≤ c ∧ c ≤ 122
theorem low_of {s : Str} (h : wordD (.str s) = true) : Low s := by
  unfold wordD at h
  rw [Bool.and_eq_true] at h
  have h3 : (s.cps.toList.all fun c => decide (c ∈ LET.cps.toList)) = true := h.2
  rw [List.all_eq_true] at h3
  exact fun c hc => let_mem c (of_decide_eq_true (h3 c hc))
theorem low_empty : Low "" := fun c hc => by
  have e : (Str.ofString "").cps.toList = [] := by decide +kernel
  rw [e] at hc
  cases hc
theorem low_ok {s : Str} (h : Low s) : PyData.strOk s = true := by
  unfold PyData.strOk
  rw [← Array.all_toList, List.all_eq_true]
  exact fun c hc => decide_eq_true (by have := h c hc; omega)
/-- all but what lies at fp stands -/
def But (fp : Addr) (H H' : Hp) : Prop := ∀ b o, b ≠ fp → H b = some o → H' b = some o
theorem But.refl (fp : Addr) (H : Hp) : But fp H H := fun _ _ _ h => h
theorem But.ex {fp : Addr} {H H' H2 : Hp} (b : But fp H H') (e : Ex H' H2) : But fp H H2 := fun a o n h => e a o (b a o n h)
theorem But.upd {fp : Addr} {H H' : Hp} {o : HO} (b : But fp H H') : But fp H (L2.upd H' fp o) := fun a u n h => by
  rw [upd_ne n]
  exact b a u n h
theorem But.of {fp : Addr} {H0 H H' : Hp} (e : Ex H0 H) (n : H0 fp = none) (b : But fp H H') : Ex H0 H' := fun a o h => b a o (ne_of_none h n) (e a o h)
section
variable {K : PySem.W.Frag} {σ : L2.St} {H : Hp} {ta te tb : TE} {D : Ends} {d : PyData}
theorem s_appD {l : Addr} {xs : List V} (hl : H l = some (.lst xs)) (ha : Ev ta σ H (.ref l)) (h : EvD K te σ H d) (hz : xs.length < 100000) (k : ∀ v H1, Ex H H1 → Dd K H1 v d → D.nx σ (upd H1 l (.lst (xs ++ [v])))) :
    tDrop (tBM K "list" rAppend ta (tCons te tNil)) D σ H := ha H (Ex.refl H) _ fun H1 e1 =>
  ⟨Or.inl ⟨rfl, xs, sq_of (e1 l _ hl)⟩, h H1 e1 _ fun v H2 e2 g => ⟨l, xs, v, rfl, rfl, e2 l _ (e1 l _ hl), sz_lt hz, k v H2 (e1.trans e2) g⟩⟩
theorem ed_if {t : TT} {b : Bool} (h : EvT t σ H b) (h1 : b = true → ∀ H1, Ex H H1 → EvD K ta σ H1 d) (h2 : b = false → ∀ H1, Ex H H1 → EvD K tb σ H1 d) : EvD K (tIf t ta tb) σ H d := fun H1 e Q q =>
  h H1 e _ fun H2 e2 => by
    cases hb : b with
    | true =>
      show ta σ H2 Q
      exact h1 hb H2 (e.trans e2) H2 (Ex.refl _) Q fun v H3 e3 g => q v H3 (e2.trans e3) g
    | false =>
      show tb σ H2 Q
      exact h2 hb H2 (e.trans e2) H2 (Ex.refl _) Q fun v H3 e3 g => q v H3 (e2.trans e3) g
end
section
variable {σ : L2.St} {H : Hp} {ta tb te : TE} {i j : Int} {K : PySem.W.Frag}
theorem evAdd (ha : Ev ta σ H (.int i)) (hb : Ev tb σ H (.int j)) : Ev (tOp (rI0 fun i j => .int (i + j)) ta tb) σ H (.int (i + j)) := ev_op ha hb rv_I0
theorem evMul (ha : Ev ta σ H (.int i)) (hb : Ev tb σ H (.int j)) (h : CMul i j) : Ev (tOp (rI CMul fun i j => .int (i * j)) ta tb) σ H (.int (i * j)) := ev_op ha hb (rv_I h)
theorem evMod (ha : Ev ta σ H (.int i)) (hb : Ev tb σ H (.int j)) (h : 0 < j) : Ev (tOp (rI (fun _ j => 0 < j) fun i j => .int (i % j)) ta tb) σ H (.int (i % j)) := ev_op ha hb (rv_I h)
theorem evDiv (ha : Ev ta σ H (.int i)) (hb : Ev tb σ H (.int j)) (h : CDiv i j) : Ev (tOp (rI CDiv fun i j => .int (i / j)) ta tb) σ H (.int (i / j)) := ev_op ha hb (rv_I h)
theorem evPow (ha : Ev ta σ H (.int i)) (hb : Ev tb σ H (.int j)) (h : CPow i j) : Ev (tOp (rI CPow fun i j => .int (i ^ j.toNat)) ta tb) σ H (.int (i ^ j.toNat)) := ev_op ha hb (rv_I h)
theorem etLt (ha : Ev ta σ H (.int i)) (hb : Ev tb σ H (.int j)) : EvT (tTest (tOp (rI0 fun i j => .bl (decide (i < j))) ta tb)) σ H (decide (i < j)) := et_test (ev_op ha hb rv_I0)
theorem etGt (ha : Ev ta σ H (.int i)) (hb : Ev tb σ H (.int j)) : EvT (tTest (tOp (rI0 fun i j => .bl (decide (j < i))) ta tb)) σ H (decide (j < i)) := et_test (ev_op ha hb rv_I0)
end
/-- the pool of a cell: two numbers, the second one small -/
def spPool (K : PySem.W.Frag) : Sp := fun vs H Q _ => ∃ (a : Addr) (ns : List Int) (k : Nat), vs = [.ref a, .int (k : Int)] ∧ SqL K H a (ns.map V.int) ∧ ns.length ≤ 63 ∧ k ≤ 63 ∧
  ∀ p c z H', H p = none → Ex H H' → H' p = some (.lst [.int c, .int z]) → 0 ≤ c → 0 ≤ z → z < 2147483648 → Q (.ref p) H'
/-- a draw: the pool turns, the number lies below sides -/
def spTake : Sp := fun vs H Q _ => ∃ (p : Addr) (c z sides : Int), vs = [.ref p, .int sides] ∧ H p = some (.lst [.int c, .int z]) ∧ 0 ≤ c ∧ 0 ≤ z ∧ z < 2147483648 ∧ 0 < sides ∧ sides < 1073741824 ∧
  ∀ n c' z', 0 ≤ n → n < sides → 0 ≤ c' → 0 ≤ z' → z' < 2147483648 → Q (.int n) (upd H p (.lst [.int c', .int z']))
section
variable {P : Program} {w : World} {K : PySem.W.Frag} {mg : Str → Option Value} {base : Heap} {f : Addr} {fd : FuncData}
theorem scTake : FnScope ["_law_draws_here", "_law_upto", "_law_digit"] ["_law_draws_here", "_law_upto"] (defScope sTake) := ⟨rfl, rfl, rfl, by decide +kernel, rfl, by decide +kernel, by decide +kernel⟩
theorem ok_take (F : Fun K "_law_draw" "_law_draw" sTake f fd) (T : mg "len" = none) : FnOk P w K mg base CX0 1 f fd ["_law_draws_here", "_law_upto"] spTake := by
  refine F.ok scTake (fun vs H Q E h => ?_) (fun cdv A outer s H vs Q E hr h => ?_)
  · obtain ⟨p, c, z, sides, rfl, _⟩ := h
    rfl
  · obtain ⟨p, c, z, sides, rfl, hp, c0, z0, z1, s0, s1, kQ⟩ := h
    have hL := fun {x y : Int} {H' : Hp} (h : H' p = some (.lst [.int x, .int y])) => (SqL.of h : SqL K H' p [.int x, .int y])
    refine ⟨_, pss_cons (ps_if (pt_cmpR op_gt (pe_ix ix_list (pv 0) pe_int (fun _ _ => rfl)) pe_int (nomark _))
        (pss_cons (ps_set (i := 2) scTake.nd rfl (Or.inl rfl) (pe_op op_mod (pe_ix ix_list (pv 0) pe_int (fun _ _ => rfl)) (pv 1)))
        (pss_cons (ps_asg (pe_op op_fdiv (pe_ix ix_list (pv 0) pe_int (fun _ _ => rfl)) (pv 1)) (pg_sub (pv 0) pe_int set_list))
        (pss_one (ps_ret (pv 2))))) pss_nil)
      (pss_cons (ps_asg (pe_op op_mod (pe_op op_add (pe_op op_mul (pe_ix ix_list (pv 0) pe_int (fun _ _ => rfl)) pe_int) pe_int) pe_int) (pg_sub (pv 0) pe_int set_list))
      (pss_one (ps_ret (pe_op op_mod (pe_op op_fdiv (pe_op op_mod (pe_op op_mul (pe_ix ix_list (pv 0) pe_int (fun _ _ => rfl)) (pe_ix ix_list (pv 0) pe_int (fun _ _ => rfl))) pe_int) pe_int) (pv 1))))), ?_⟩
    refine ⟨_, rfl, p, [.int c, .int z], 0, .int c, rfl, rfl, hL hp, rfl, c, 0, rfl, rfl, _, rfl, ?_⟩
    refine ite2 (fun hc => ?_) (fun hc => ?_)
    · refine ⟨_, rfl, p, [.int c, .int z], 0, .int c, rfl, rfl, hL hp, rfl, _, rfl, c, sides, rfl, rfl, s0, ?_⟩
      refine ⟨_, rfl, p, [.int c, .int z], 0, .int c, rfl, rfl, hL hp, rfl, _, rfl, c, sides, rfl, rfl, ⟨s0, s1⟩, ?_⟩
      refine ⟨_, rfl, p, [.int c, .int z], 0, 0, rfl, rfl, hp, rfl, _, rfl, ?_⟩
      exact kQ _ _ _ (Int.emod_nonneg c (by omega)) (Int.emod_lt_of_pos c s0) (Int.ediv_nonneg c0 (by omega)) z0 z1
    · refine ⟨_, rfl, p, [.int c, .int z], 1, .int z, rfl, rfl, hL hp, rfl, z, 48271, rfl, rfl, Or.inr (by decide), _, 11, rfl, rfl, _, 2147483647, rfl, rfl, (by show (0 : Int) < 2147483647; decide), ?_⟩
      refine ⟨_, rfl, p, [.int c, .int z], 1, 1, rfl, rfl, hp, rfl, ?_⟩
      have z01 : 0 ≤ (z * 48271 + 11) % 2147483647 ∧ (z * 48271 + 11) % 2147483647 < 2147483647 := ⟨Int.emod_nonneg _ (by decide), Int.emod_lt_of_pos _ (by decide)⟩
      have hp' : upd H p (.lst ([V.int c, V.int z].set 1 ((fun i j => V.int (i % j)) (z * 48271 + 11) 2147483647))) p = some (.lst [.int c, .int ((z * 48271 + 11) % 2147483647)]) := upd_same
      refine ⟨_, rfl, p, _, 1, .int ((z * 48271 + 11) % 2147483647), rfl, rfl, hL hp', rfl, _, rfl, p, _, 1, .int ((z * 48271 + 11) % 2147483647), rfl, rfl, hL hp', rfl, _, _, rfl, rfl, Or.inl ⟨by omega, by omega⟩, _, 2147483629, rfl, rfl, (by show (0 : Int) < 2147483629; decide), _, 64, rfl, rfl, ⟨by decide, by decide⟩, _, rfl, _, sides, rfl, rfl, s0, ?_⟩
      exact kQ _ _ _ (Int.emod_nonneg _ (by omega)) (Int.emod_lt_of_pos _ s0) c0 z01.1 (by omega)
end
def PoolAt (H : Hp) (p : Addr) : Prop := ∃ c z : Int, H p = some (.lst [.int c, .int z]) ∧ 0 ≤ c ∧ 0 ≤ z ∧ z < 2147483648
theorem PoolAt.ext {H H' : Hp} {p : Addr} (h : PoolAt H p) (e : Ex H H') : PoolAt H' p := by
  obtain ⟨c, z, h1, h2⟩ := h
  exact ⟨c, z, e _ _ h1, h2⟩
theorem PoolAt.ne {H : Hp} {p q : Addr} (h : PoolAt H p) (n : H q = none) : q ≠ p := fun e => by
  obtain ⟨c, z, h1, _⟩ := h
  rw [e, h1] at n
  cases n
theorem But.trans {p : Addr} {H H1 H2 : Hp} (a : But p H H1) (b : But p H1 H2) : But p H H2 := fun x o n h => b x o n (a x o n h)
theorem But.ofEx {p : Addr} {H H' : Hp} (e : Ex H H') : But p H H' := fun x o _ h => e x o h
section
variable {σ : L2.St} {H : Hp} {te : TE} {p : Addr} {i : Nat} {sides : Int}
theorem take_go {Q : VK} {E : XK} (hp : PoolAt H p) (h0 : σ[i]? = some (some (.ref p))) (hE : Ev te σ H (.int sides)) (hs : 0 < sides ∧ sides < 1073741824)
    (k : ∀ n H', 0 ≤ n → n < sides → But p H H' → PoolAt H' p → Q (.int n) H') : tCall spTake [] E (tCons (tVar i) (tCons te tNil)) σ H Q := by
  refine ⟨_, h0, hE H (Ex.refl _) _ fun H1 e1 => ?_⟩
  obtain ⟨c, z, h1, c0, z0, z1⟩ := hp
  exact ⟨p, c, z, sides, rfl, e1 _ _ h1, c0, z0, z1, hs.1, hs.2, fun n c' z' n0 n1 c0' z0' z1' => k n _ n0 n1 (But.ofEx e1).upd ⟨c', z', upd_same, c0', z0', z1'⟩⟩
end
end K54
set_option maxHeartbeats 4000000
namespace K54
open PySem PySem.Spec PyProof.Rows L2 Evl My LamX
/-! the order and what stands below, as pure functions -/
abbrev txts (ns : List Str) : List PyData := ns.map .str
def newTo (bl : Str → List Str) (l : Str) (r : List Str) : Str → List Str := fun s => if s = l then r else bl s
def foundOf (ns : List Str) (ps : List (Str × Str)) (bl : Str → List Str) (l : Str) : List Str := [ns.headD "", l] ++ (ps.filter fun p => decide (p.2 = l)).flatMap fun p => bl p.1
def rowOf (ns : List Str) (ps : List (Str × Str)) (bl : Str → List Str) (l : Str) : List Str := ns.filter fun w => decide (w ∈ foundOf ns ps bl l)
def belF (ns : List Str) (ps : List (Str × Str)) (pre : List Str) : Str → List Str := pre.foldl (fun bl l => newTo bl l (rowOf ns ps bl l)) fun _ => []
theorem belF_snoc (ns : List Str) (ps : List (Str × Str)) (pre : List Str) (l : Str) : belF ns ps (pre ++ [l]) = newTo (belF ns ps pre) l (rowOf ns ps (belF ns ps pre) l) := by
  unfold belF
  rw [List.foldl_append]
  rfl
theorem newTo_other {bl : Str → List Str} {l s : Str} {r : List Str} (h : s ≠ l) : newTo bl l r s = bl s := if_neg h
theorem newTo_same {bl : Str → List Str} {l : Str} {r : List Str} : newTo bl l r l = r := if_pos rfl
theorem rowOf_rev (ns : List Str) (ps : List (Str × Str)) (bl : Str → List Str) (l : Str) : rowOf ns ps.reverse bl l = rowOf ns ps bl l := by
  unfold rowOf
  congr 1
  funext w
  refine decide_eq_decide.mpr ?_
  unfold foundOf
  simp [List.mem_flatMap]
theorem belF_rev (ns : List Str) (ps : List (Str × Str)) (pre : List Str) : belF ns ps.reverse pre = belF ns ps pre := by
  unfold belF
  congr 1
  funext bl l
  rw [rowOf_rev]
theorem rowOf_sub (ns : List Str) (ps : List (Str × Str)) (bl : Str → List Str) (l : Str) : ∀ w ∈ rowOf ns ps bl l, w ∈ ns := fun w h => (List.mem_filter.mp h).1
theorem belF_len (ns : List Str) (ps : List (Str × Str)) : ∀ (pre : List Str) (s : Str), (belF ns ps pre s).length ≤ ns.length := fun pre => by
  unfold belF
  generalize hb : (fun _ : Str => ([] : List Str)) = b0
  have h0 : ∀ s, (b0 s).length ≤ ns.length := fun s => by
    rw [← hb]
    exact Nat.zero_le _
  clear hb
  induction pre generalizing b0 with
  | nil => exact h0
  | cons l r ih =>
    refine ih _ fun s => ?_
    show (if s = l then rowOf ns ps b0 l else b0 s).length ≤ ns.length
    split
    · exact List.length_filter_le _ _
    · exact h0 s
structure NamesOk (ns : List Str) : Prop where
  one : 1 ≤ ns.length
  eight : ns.length ≤ 8
  word : ∀ s ∈ ns, wordD (.str s) = true
  nd : ns.Nodup
def PairsOk (ns : List Str) (ps : List (Str × Str)) : Prop := ps.length ≤ 10 ∧ ∀ p ∈ ps, ∃ i j : Nat, i < j ∧ ns[i]? = some p.1 ∧ ns[j]? = some p.2
/-! dicts from texts to lists of texts -/
/-- a list of texts that H holds -/
def LsAt (H : Hp) (v : V) (ws : List Str) : Prop := ∃ a, v = .ref a ∧ H a = some (.lst (ws.map V.str))
def KvL (H : Hp) (ka : List (Key × V)) (ks : List Str) (bl : Str → List Str) : Prop := Paired (fun (p : Key × V) (s : Str) => p.1 = .inr s ∧ LsAt H p.2 (bl s)) ka ks
def DcAt (H : Hp) (b : Addr) (ks : List Str) (bl : Str → List Str) : Prop := ∃ ka, H b = some (.dK ka) ∧ KvL H ka ks bl
theorem LsAt.dd {K : PySem.W.Frag} {H : Hp} {v : V} {ws : List Str} (h : LsAt H v ws) : Dd K H v (.list (txts ws)) := by
  obtain ⟨a, rfl, e⟩ := h
  exact .lst (sq_of e) (Dds.strs ws)
theorem paired_app {α β : Type} {R : α → β → Prop} : ∀ {xs : List α} {ys : List β} {xs' : List α} {ys' : List β}, Paired R xs ys → Paired R xs' ys' → Paired R (xs ++ xs') (ys ++ ys')
  | _, _, _, _, .nil, h => h
  | _, _, _, _, .cons z t, h => .cons z (paired_app t h)
section
variable {K : PySem.W.Frag} {H H' : Hp} {ka : List (Key × V)} {ks : List Str} {bl : Str → List Str} {b : Addr}
theorem KvL.map (h : KvL H ka ks bl) (f : ∀ v ws, LsAt H v ws → LsAt H' v ws) : KvL H' ka ks bl := by
  unfold KvL at h ⊢
  induction h with
  | nil => exact .nil
  | cons z _ ih => exact .cons ⟨z.1, f _ _ z.2⟩ ih
theorem LsAt.ext {v : V} {ws : List Str} (e : Ex H H') (h : LsAt H v ws) : LsAt H' v ws := by
  obtain ⟨a, h1, h2⟩ := h
  exact ⟨a, h1, e _ _ h2⟩
theorem LsAt.extN {v : V} {ws : List Str} (e : ExtN H H') (h : LsAt H v ws) : LsAt H' v ws := by
  obtain ⟨a, h1, h2⟩ := h
  exact ⟨a, h1, e _ _ h2 fun _ z => nomatch z⟩
/-- what is not the one object stays -/
theorem LsAt.but {v : V} {ws : List Str} {p : Addr} (b : But p H H') (n : ∀ xs, H p ≠ some (.lst xs)) (h : LsAt H v ws) : LsAt H' v ws := by
  obtain ⟨a, h1, h2⟩ := h
  exact ⟨a, h1, b _ _ (fun e => n _ (by rw [← e]; exact h2)) h2⟩
theorem KvL.ext (e : Ex H H') (h : KvL H ka ks bl) : KvL H' ka ks bl := h.map fun v d g => g.ext e
theorem KvL.extN (e : ExtN H H') (h : KvL H ka ks bl) : KvL H' ka ks bl := h.map fun v d g => g.extN e
theorem KvL.but {p : Addr} (b : But p H H') (n : ∀ xs, H p ≠ some (.lst xs)) (h : KvL H ka ks bl) : KvL H' ka ks bl := h.map fun v d g => g.but b n
theorem DcAt.ext (e : Ex H H') (h : DcAt H b ks bl) : DcAt H' b ks bl := by
  obtain ⟨ka, h1, h2⟩ := h
  exact ⟨ka, e _ _ h1, h2.ext e⟩
theorem DcAt.extN (e : ExtN H H') (h : DcAt H b ks bl) : DcAt H' b ks bl := by
  obtain ⟨ka, h1, h2⟩ := h
  exact ⟨ka, e _ _ h1 (fun _ z => nomatch z), h2.extN e⟩
theorem KvL.none (h : KvL H ka ks bl) {s : Str} (hs : s ∉ ks) : valV ka (.inr s) = none := by
  unfold KvL at h
  induction h with
  | nil => rfl
  | @cons p t ps ts z _ ih =>
    have ne : ¬ p.1 = .inr s := fun e => by
      rw [z.1] at e
      injection e with e
      exact hs (by rw [e]; exact List.mem_cons_self ..)
    rw [valV_neg ne]
    exact ih fun m => hs (List.mem_cons_of_mem _ m)
theorem KvL.some (h : KvL H ka ks bl) {s : Str} (hs : s ∈ ks) : ∃ v, valV ka (.inr s) = some v ∧ LsAt H v (bl s) := by
  unfold KvL at h
  induction h with
  | nil => cases hs
  | @cons p t ps ts z _ ih =>
    by_cases e : t = s
    · subst e
      exact ⟨p.2, valV_pos z.1, z.2⟩
    · have ne : ¬ p.1 = .inr s := fun q => by
        rw [z.1] at q
        injection q with q
        exact e q
      rw [valV_neg ne]
      rcases List.mem_cons.mp hs with q | q
      · exact absurd q.symm e
      · exact ih q
theorem KvL.snoc (h : KvL H ka ks bl) {s : Str} {v : V} {r : List Str} (hs : s ∉ ks) (g : LsAt H v r) : KvL H (putK ka (.inr s) v) (ks ++ [s]) (newTo bl s r) := by
  rw [putK_new v (h.none hs)]
  have h2 : KvL H ka ks (newTo bl s r) := by
    unfold KvL at h ⊢
    have q : ∀ {ka : List (Key × V)} {ks : List Str}, Paired (fun (p : Key × V) (s : Str) => p.1 = .inr s ∧ LsAt H p.2 (bl s)) ka ks → s ∉ ks → Paired (fun (p : Key × V) (t : Str) => p.1 = .inr t ∧ LsAt H p.2 (newTo bl s r t)) ka ks := by
      intro ka ks h hs
      induction h with
      | nil => exact .nil
      | @cons p t ps ts z _ ih =>
        refine .cons ⟨z.1, ?_⟩ (ih fun m => hs (List.mem_cons_of_mem _ m))
        rw [newTo_other fun e => hs (by rw [← e]; exact List.mem_cons_self ..)]
        exact z.2
    exact q h hs
  exact paired_app h2 (.cons ⟨rfl, by
    show LsAt H v (newTo bl s r s)
    rw [newTo_same]
    exact g⟩ .nil)
theorem KvL.len (h : KvL H ka ks bl) : ka.length = ks.length := Paired.length h
end
section
variable {K : PySem.W.Frag} {σ : L2.St} {H : Hp} {ta tb td ty te : TE} {b p : Addr} {ks : List Str} {bl : Str → List Str} {s : Str} {xs : List V} {ws : List Str} {D : Ends} {i : Nat}
/-- d[s] -/
theorem ed_dget (hd : Ev td σ H (.ref b)) (h : DcAt H b ks bl) (hy : Ev ty σ H (.str s)) (hs : s ∈ ks) : EvD K (tDGet td ty) σ H (.list (txts (bl s))) := fun H1 e Q q =>
  hd H1 e _ fun H2 e2 => hy H2 (e.trans e2) _ fun H3 e3 => by
    obtain ⟨ka, h1, h2⟩ := h.ext ((e.trans e2).trans e3)
    obtain ⟨v, h3, g⟩ := h2.some hs
    exact ⟨b, v, rfl, by rw [← h3]; exact DGet.k (k := .inr s) h1, q v H3 (e2.trans e3) g.dd⟩
/-- s in d -/
theorem ev_din (hy : Ev ty σ H (.str s)) (hd : Ev td σ H (.ref b)) (h : DcAt H b ks bl) : Ev (tDIn ty td) σ H (.bl (decide (s ∈ ks))) := fun H1 e Q q =>
  hy H1 e _ fun H2 e2 => hd H2 (e.trans e2) _ fun H3 e3 => by
    obtain ⟨ka, h1, h2⟩ := h.ext ((e.trans e2).trans e3)
    refine ⟨b, _, rfl, DGet.k (k := .inr s) h1, ?_⟩
    have z := q H3 (e2.trans e3)
    by_cases hs : s ∈ ks
    · obtain ⟨v, h3, _⟩ := h2.some hs
      rw [h3]
      rw [decide_eq_true hs] at z
      exact z
    · rw [h2.none hs]
      rw [decide_eq_false hs] at z
      exact z
theorem inV_txts (s : Str) (ws : List Str) : inV (.str s) (ws.map V.str) = decide (s ∈ ws) := by
  unfold inV
  rw [List.any_map, Bool.eq_iff_iff, List.any_eq_true, decide_eq_true_eq]
  constructor
  · rintro ⟨y, hy, e⟩
    have : y = s := by
      have e2 : (y == s) = true := e
      exact beq_iff_eq.mp e2
    rw [← this]
    exact hy
  · intro h
    exact ⟨s, h, (by show (s == s) = true; exact beq_iff_eq.mpr rfl)⟩
theorem flat_txts (ws : List Str) : (ws.map V.str).all flatV = true := by
  rw [List.all_map, List.all_eq_true]
  exact fun _ _ => rfl
/-- s in a list of texts -/
theorem ev_inL (ha : Ev ta σ H (.str s)) (hb : EvD K tb σ H (.list (txts ws))) : Ev (tOp (rIn K false) ta tb) σ H (.bl (decide (s ∈ ws))) := fun H1 e Q q =>
  ha H1 e _ fun H2 e2 => hb H2 (e.trans e2) _ fun v H3 e3 g => by
    cases g with
    | @lst a xs _ hx g =>
      rw [Dds.txts g] at hx
      exact ⟨a, ws.map V.str, rfl, .inl hx, rfl, flat_txts ws, by
        show Q (.bl (inV (.str s) (ws.map V.str))) H3
        rw [inV_txts]
        exact q H3 (e2.trans e3)⟩
end
/-! equal lists of texts -/
theorem eqv_txts : ∀ ws vs : List Str, PyData.eqv (.list (txts ws)) (.list (txts vs)) = decide (ws = vs) := by
  have all : ∀ ws vs : List Str, PyData.eqvAll (txts ws) (txts vs) = decide (ws = vs) := by
    intro ws
    induction ws with
    | nil =>
      intro vs
      cases vs <;> rfl
    | cons w ws ih =>
      intro vs
      cases vs with
      | nil => rfl
      | cons v vs =>
        show (PyData.eqv (.str w) (.str v) && PyData.eqvAll (txts ws) (txts vs)) = _
        rw [ih]
        show ((w == v) && decide (ws = vs)) = _
        rw [Bool.eq_iff_iff, Bool.and_eq_true, beq_iff_eq, decide_eq_true_eq, decide_eq_true_eq, List.cons.injEq]
  exact all
end K54
set_option maxHeartbeats 8000000
namespace K54
open PySem PySem.Spec PyProof.Rows L2 Evl My LamX
abbrev sNames : Stmt := top 11
abbrev sPair : Stmt := top 12
abbrev sPairs : Stmt := top 13
abbrev sBelow : Stmt := top 14
def isSeq : PyData → Bool
  | .list _ => true
  | .tuple _ => true
  | _ => false
def isLst : PyData → Bool
  | .list _ => true
  | _ => false
def seqOf : PyData → List PyData
  | .list ds => ds
  | .tuple ds => ds
  | _ => []
def strD : PyData → Str
  | .str s => s
  | _ => ""
theorem isLst_kit (d : PyData) : kitB (tyD d) "list" = some (isLst d) := match d with
  | .none => (by decide +kernel : kitB "NoneType" "list" = some false)
  | .bool b => (by decide +kernel : kitB "bool" "list" = some false)
  | .int i => (by decide +kernel : kitB "int" "list" = some false)
  | .str s => (by decide +kernel : kitB "str" "list" = some false)
  | .list s => (by decide +kernel : kitB "list" "list" = some true)
  | .tuple s => (by decide +kernel : kitB "tuple" "list" = some false)
  | .dict s => (by decide +kernel : kitB "dict" "list" = some false)
theorem small_seq {d : PyData} (h : small d = true) : (seqOf d).length ≤ 1000 ∧ ∀ x ∈ seqOf d, small x = true := by
  cases d with
  | list ds => exact small_tup h
  | tuple ds => exact small_tup h
  | _ => exact ⟨Nat.zero_le _, fun x m => nomatch m⟩
section
variable {K : PySem.W.Frag} {σ : L2.St} {H : Hp} {te tl ta tb : TE} {d : PyData} {ds : List PyData}
theorem ev_isiLT (h : EvD K te σ H d) : Ev (tCB (rIsiT K) (tCons te (tCons (tTup (tCons (tC (.ty "list")) (tCons (tC (.ty "tuple")) tNil))) tNil))) σ H (.bl (isSeq d)) := fun H1 e Q q =>
  h H1 e _ fun v H2 e2 g => ⟨(by show 2 ≤ sizeLine; decide), fun p hp => by
    have e3 : Ex H2 (upd H2 p (.tup [.ty "list", .ty "tuple"])) := Ex.new hp
    refine ⟨v, p, [.ty "list", .ty "tuple"], .type (tyD d), [.type "list", .type "tuple"], isSeq d, rfl, upd_same, .cons (.ty _) (.cons (.ty _) .nil), (Dd.ext e3 _ _ g).ty, ?_, q _ (e2.trans e3)⟩
    refine kitAny_cons (b := isLst d) (kit_ty (isLst_kit d)) (fun z => kitAny_cons (b := isTup d) (r := isSeq d) (kit_ty (isTup_kit d)) (fun z2 => ?_) fun z2 => ?_) fun z => ?_
    · cases d <;> first | rfl | (cases z2; done) | (cases z; done)
    · cases d <;> first | rfl | (cases z2; done) | (cases z; done)
    · cases d <;> first | rfl | (cases z; done)⟩
theorem ed_lenQ (h : EvD K te σ H d) (hs : isSeq d = true) : Ev (tCB (rLenD K) (tCons te tNil)) σ H (.int ((seqOf d).length : Int)) := fun H1 e1 Q q =>
  h H1 e1 _ fun v H2 e2 g => by
    cases d with
    | list ds =>
      cases g with
      | lst hx ha => exact ⟨_, ds.length, rfl, .inl ⟨_, hx, ha.len.symm⟩, q H2 e2⟩
    | tuple ds =>
      cases g with
      | tup hx ha => exact ⟨_, ds.length, rfl, .inr ⟨_, hx, ha.len.symm⟩, q H2 e2⟩
    | _ => cases hs
/-- a walk over a list or a tuple -/
def iSeq (K : PySem.W.Frag) (tl : TE) : TI := fun σ H R => iList K tl σ H R ∨ iTup K tl σ H R
theorem it_LD (h : EvD K tl σ H (.list ds)) : EvIt K (iList K tl) σ H ds := fun H1 e R k =>
  h H1 e _ fun v H2 e2 g => by
    cases g with
    | @lst a xs _ hs ha => exact ⟨a, rfl, ⟨xs, hs⟩, k _ H2 e2 (walk_L hs ha)⟩
theorem it_seq (h : EvD K tl σ H d) (hs : isSeq d = true) : EvIt K (iSeq K tl) σ H (seqOf d) := fun H1 e R k => by
  cases d with
  | list ds => exact .inl (it_LD h H1 e R k)
  | tuple ds => exact .inr (it_T h H1 e R k)
  | _ => cases hs
/-- all([F(x) for x in ..]) -/
theorem ev_allC {wi : TI} {j : Nat} {vs : List Nat} (F : PyData → Bool) (it : EvIt K wi σ H ds) (hz : ds.length ≤ 40000) (hw : ∀ x, wipe ((wipe σ vs).set j (some x)) vs = wipe σ vs)
    (step : ∀ x d H1, Ex H H1 → d ∈ ds → Dd K H1 x d → Ev te ((wipe σ vs).set j (some x)) H1 (.bl (F d))) : Ev (tCB (rAll K) (tCons (tLc wi (gName j) tYes te vs) tNil)) σ H (.bl (ds.all F)) := by
  have r := edl_lc (K := K) (tt := tYes) (te := te) (fun _ => true) (fun d => .bool (F d)) it hz (fun _ _ _ => rfl) hw (fun _ _ _ _ _ _ => et_yes) (fun x d H1 e m g _ => ed_bl (step x d H1 e m g))
  rw [List.filter_eq_self.mpr (fun _ _ => rfl)] at r
  have e : ds.map (fun d => PyData.bool (F d)) = (ds.map F).map PyData.bool := by
    rw [List.map_map]
    rfl
  rw [e] at r
  refine ev_is (ed_all r) ?_
  rw [List.all_map]
  rfl
end
theorem pi_seq {X : Cx} {tg l : Expr} {tl : TE} (hl : PE X l tl) : PI X tg l (iSeq X.K tl) := ⟨fun pins s σ H R I h => by
  rcases h with h | h
  · exact (pi_list hl).run pins s σ H R I h
  · exact (pi_tup hl).run pins s σ H R I h⟩
/-! ### what are names -/
def len8 (d : PyData) : Bool := decide (1 ≤ (seqOf d).length) && decide ((seqOf d).length ≤ 8)
def difD (d : PyData) : Bool := decide ((seqOf d).map strD).Nodup
def namesD (d : PyData) : Bool := (isSeq d && len8 d) && ((seqOf d).all wordD && difD d)
theorem word_is {d : PyData} (h : wordD d = true) : d = .str (strD d) := by
  cases d with
  | str s => rfl
  | _ => cases h
theorem words_are : ∀ {ds : List PyData}, ds.all wordD = true → ds = txts (ds.map strD)
  | [], _ => rfl
  | d :: ds, h => by
    rw [List.all_cons, Bool.and_eq_true] at h
    have e := word_is h.1
    have ih := words_are h.2
    rw [List.map_cons, txts, List.map_cons, ← e]
    congr 1
theorem cnt_nodup (ws : List Str) : decide (cntOf (fun i => ws.getD i Str.empty) ws.length = ws.length) = decide ws.Nodup := by
  refine decide_eq_decide.mpr ((cntOf_all _ _).trans ?_)
  rw [List.nodup_iff_pairwise_ne, List.pairwise_iff_getElem]
  constructor
  · intro h i j hi hj ij e
    refine h i j ij hj ?_
    rw [List.getD_eq_getElem?_getD, List.getD_eq_getElem?_getD, List.getElem?_eq_getElem hi, List.getElem?_eq_getElem hj, e]
  · intro h i j ij hj e
    have hi : i < ws.length := by omega
    rw [List.getD_eq_getElem?_getD, List.getD_eq_getElem?_getD, List.getElem?_eq_getElem hi, List.getElem?_eq_getElem hj] at e
    exact h i j hi hj ij e
section
variable {P : Program} {w : World} {K : PySem.W.Frag} {mg : Str → Option Value} {base : Heap} {f : Addr} {fd : FuncData}
theorem scNames : FnScope ["thing", "word"] ["thing"] (defScope sNames) := ⟨rfl, rfl, rfl, by decide +kernel, rfl, by decide +kernel, by decide +kernel⟩
theorem ok_names (F : Fun K "are_names" "are_names" sNames f fd) (T : Txt mg) (W : Df P w K mg base "is_word" ["thing"] 1 (spB K wordD)) : FnOk P w K mg base CX0 2 f fd ["thing"] (spB K namesD) := by
  refine F.ok scNames (fun vs H Q E h => ?_) (fun cdv A outer s H vs Q E hr h => ?_)
  · obtain ⟨_, g, ⟨d, rfl, _⟩, _⟩ := h
    exact g.len
  · obtain ⟨_, g, ⟨d, rfl, hd⟩, kQ⟩ := h
    cases g with
    | @cons v _ _ _ g1 g2 =>
    cases g2
    refine ⟨_, pss_cons (ps_if (PW.pt (pw_or (pt_not (pt_val (pe_callB call_isiT (by rfl) T.isn (by decide +kernel) (pa_cons (pv 0) (pa_cons (pe_tup (pa_cons (pe_bltn (v := .ty "list") (by rfl) T.lst (by decide +kernel) rfl) (pa_cons (pe_bltn (v := .ty "tuple") (by rfl) T.tup (by decide +kernel) rfl) pa_nil))) pa_nil)))))
        (pw_or1 (pt_not (pt_chain op_le op_le pe_int (pe_callB call_len (by rfl) T.len (by decide +kernel) (pa_cons (pv 0) pa_nil)) (C8.pe_gc (v := .int 8) rfl T.most)))))) (pss_one (ps_ret pe_bl)) pss_nil)
      (pss_one (ps_ret (pe_and (pe_callB (cr_all rfl) (by rfl) T.all (by decide +kernel) (pa_cons
        (pe_lc (own := [("word", 1)]) (g := gName 1) (tt := tYes) (te := tCall (spB K wordD) [] E0 (tCons (tVar 1) tNil)) rfl scNames.nd (pi_seq (pv 0)) (blkOk_by (own := [("word", 1)]) (N := ["thing", "word"]) (sc := defScope sNames) (by decide +kernel))
          (fun _ _ _ _ _ => pg_name (i := 1) scNames.nd rfl (Or.inl rfl)) (fun _ _ _ _ _ => pts_nil) (fun _ _ _ _ _ => pe_df W (hr.mono (by decide)) rfl (pa_cons (pv 1) pa_nil))) pa_nil))
        (pe_one (pe_cmpR op_eq (pe_lenSetT (by rfl) T.len (by rfl) T.set (pv 0)) (pe_callB call_len (by rfl) T.len (by decide +kernel) (pa_cons (pv 0) pa_nil)) (nomark _)))))), ?_⟩
    have gv : ∀ {H1 : Hp}, Ex H H1 → EvD K (tVar 0) (start ["thing", "word"] [v]) H1 d := fun e => ed_var rfl (Dd.ext e _ _ g1)
    refine q_when (b := !isSeq d || !len8 d) (et_or (et_not (et_B (ev_isiLT (gv (Ex.refl _))))) fun hz => et_not (et_is (et_chain ev_c (ed_lenQ (gv (Ex.refl _)) (notF hz)) ev_c) ?_)) (fun hb H1 e1 => ?_) (fun hb H1 e1 => ?_)
    · show (decide ((1 : Int) ≤ ((seqOf d).length : Int)) && decide (((seqOf d).length : Int) ≤ 8)) = len8 d
      unfold len8
      congr 1 <;> exact decide_eq_decide.mpr (by omega)
    · refine s_retD (K := K) (ed_bl ev_c) fun u H2 e2 gu => kQ u H2 (e1.trans e2) (by
        have z : namesD d = false := by
          unfold namesD
          cases h1 : isSeq d <;> cases h2 : len8 d <;> rw [h1, h2] at hb <;> first | rfl | cases hb
        show Dd K H2 u (.bool (namesD d))
        rw [z]
        exact gu)
    · have hs : isSeq d = true := by
        cases h1 : isSeq d
        · rw [h1] at hb
          cases hb
        · rfl
      have h8 : len8 d = true := by
        cases h1 : len8 d
        · rw [hs, h1] at hb
          cases hb
        · rfl
      have sm := small_seq hd
      refine s_retD (K := K) (ed_bl (z := namesD d) (ev_is (ev_andV (b := difD d) (ev_allC (j := 1) (vs := [1]) wordD (it_seq (gv e1) hs) (by omega) (fun _ => rfl) fun x d' H2 _ m g => ev_spB (ed_var rfl g) (sm.2 d' m)) fun hw => ?_) ?_)) fun u H2 e2 gu => kQ u H2 (e1.trans e2) gu
      · have ws := words_are hw
        have ln : ((seqOf d).map strD).length = (seqOf d).length := List.length_map ..
        have h1 : Ev (tLenSetT K (tVar 0)) (start ["thing", "word"] [v]) H1 (.int (cntOf (fun i => ((seqOf d).map strD).getD i Str.empty) ((seqOf d).map strD).length : Nat)) := fun H3 e3 Q2 q2 => by
          refine gv e1 H3 e3 _ fun v2 H4 e4 g4 => ?_
          have fin := q2 H4 e4
          cases d with
          | list ds =>
            cases g4 with
            | @lst a xs _ hx ha =>
              rw [show ds = txts (ds.map strD) from ws] at ha
              rw [Dds.txts ha] at hx
              exact ⟨a, ds.map strD, rfl, .inl hx, by
                have := sm.1
                rw [List.length_map]
                exact this, fin⟩
          | tuple ds =>
            cases g4 with
            | @tup a xs _ hx ha =>
              rw [show ds = txts (ds.map strD) from ws] at ha
              rw [Dds.txts ha] at hx
              exact ⟨a, ds.map strD, rfl, .inr hx, by
                have := sm.1
                rw [List.length_map]
                exact this, fin⟩
          | _ => cases hs
        refine ev_is (ev_op h1 (ed_lenQ (gv e1) hs) (rv_eq rfl)) ?_
        · unfold difD
          rw [← cnt_nodup, ln]
          refine congrArg V.bl (decide_eq_decide.mpr ⟨fun z => ?_, fun z => ?_⟩)
          · injection z with z
            omega
          · rw [z]
      · unfold namesD
        rw [hs, h8]
        cases (seqOf d).all wordD <;> rfl
end
end K54
set_option maxHeartbeats 8000000
namespace K54
open PySem PySem.Spec PyProof.Rows L2 Evl My LamX
/-- the place of a text in a list -/
def ixOf (s : Str) : List Str → Nat
  | [] => 0
  | w :: ws => if w = s then 0 else ixOf s ws + 1
theorem ixOf_at (s : Str) : ∀ {ws : List Str}, s ∈ ws → ws[ixOf s ws]? = some s ∧ ∀ m z, m < ixOf s ws → ws[m]? = some z → z ≠ s
  | w :: ws, h => by
    unfold ixOf
    by_cases e : w = s
    · rw [if_pos e]
      exact ⟨by rw [e]; rfl, fun m z hm => by omega⟩
    · rw [if_neg e]
      have ih := ixOf_at s (ws := ws) (by
        rcases List.mem_cons.mp h with q | q
        · exact absurd q.symm e
        · exact q)
      refine ⟨ih.1, fun m z hm hz => ?_⟩
      cases m with
      | zero =>
        cases hz
        exact e
      | succ m => exact ih.2 m z (by omega) hz
theorem ixOf_nd {ws : List Str} (nd : ws.Nodup) {s : Str} {i : Nat} (h : ws[i]? = some s) : ixOf s ws = i := by
  have m : s ∈ ws := List.mem_of_getElem? h
  obtain ⟨h1, h2⟩ := ixOf_at s m
  obtain ⟨a1, b1⟩ := List.getElem?_eq_some_iff.mp h1
  obtain ⟨a2, b2⟩ := List.getElem?_eq_some_iff.mp h
  rw [List.nodup_iff_pairwise_ne, List.pairwise_iff_getElem] at nd
  rcases Nat.lt_trichotomy (ixOf s ws) i with q | q | q
  · exact absurd (b1.trans b2.symm) (nd _ _ a1 a2 q)
  · exact q
  · exact absurd (b2.trans b1.symm) (nd _ _ a2 a1 q)
def two (d : PyData) : Bool := decide ((seqOf d).length = 2)
def inD (ns : List Str) (d : PyData) : Bool := wordD d && decide (strD d ∈ ns)
def ordD (ns : List Str) (d : PyData) : Bool := match seqOf d with
  | a :: b :: _ => decide (ixOf (strD a) ns < ixOf (strD b) ns)
  | _ => false
def pairB (ns : List Str) (d : PyData) : Bool := (isTup d && two d) && ((seqOf d).all (inD ns) && ordD ns d)
def pairsB (ns : List Str) (d : PyData) : Bool := isSeq d && (seqOf d).all (pairB ns)
section
variable {K : PySem.W.Frag} {σ : L2.St} {H : Hp} {te tl ta tb : TE} {d : PyData} {ds : List PyData} {ns : List Str} {o : Addr} {s : Str}
/-- xs.index(s) -/
theorem ev_index (ha : Ev ta σ H (.ref o)) (ho : SqL K H o (ns.map V.str)) (hb : Ev tb σ H (.str s)) (hs : s ∈ ns) : Ev (tBM K "list" (rIndex K) ta (tCons tb tNil)) σ H (.int (ixOf s ns : Nat)) := fun H1 e Q q =>
  ha H1 e _ fun H2 e2 => ⟨.inl ⟨rfl, _, ex_l (e.trans e2) ho⟩, hb H2 (e.trans e2) _ fun H3 e3 => by
    obtain ⟨h1, h2⟩ := ixOf_at s hs
    refine ⟨o, ns.map V.str, .str s, ixOf s ns, .str s, rfl, rfl, ex_l ((e.trans e2).trans e3) ho, rfl, flat_txts ns, by rw [List.getElem?_map, h1]; rfl, beq_iff_eq.mpr rfl, fun m z' hm hz => ?_, q H3 (e2.trans e3)⟩
    rw [List.getElem?_map] at hz
    cases hx : ns[m]? with
    | none =>
      rw [hx] at hz
      cases hz
    | some y =>
      rw [hx] at hz
      cases hz
      exact beq_eq_false_iff_ne.mpr (h2 m y hm hx)⟩
end
def spPair (K : PySem.W.Frag) : Sp := fun vs H Q _ => ∃ (v : V) (o : Addr) (d : PyData) (ns : List Str), vs = [v, .ref o] ∧ Dd K H v d ∧ small d = true ∧ SqL K H o (ns.map V.str) ∧ ∀ H', Ex H H' → Q (.bl (pairB ns d)) H'
def spPairs (K : PySem.W.Frag) : Sp := fun vs H Q _ => ∃ (v : V) (o : Addr) (d : PyData) (ns : List Str), vs = [v, .ref o] ∧ Dd K H v d ∧ small d = true ∧ SqL K H o (ns.map V.str) ∧ ∀ H', Ex H H' → Q (.bl (pairsB ns d)) H'
section
variable {P : Program} {w : World} {K : PySem.W.Frag} {mg : Str → Option Value} {base : Heap} {f : Addr} {fd : FuncData}
theorem scPair : FnScope ["thing", "order", "word"] ["thing", "order"] (defScope sPair) := ⟨rfl, rfl, rfl, by decide +kernel, rfl, by decide +kernel, by decide +kernel⟩
theorem ok_pairD (F : Fun K "is_pair" "is_pair" sPair f fd) (T : Txt mg) (W : Df P w K mg base "is_word" ["thing"] 1 (spB K wordD)) : FnOk P w K mg base CX0 2 f fd ["thing", "order"] (spPair K) := by
  refine F.ok scPair (fun vs H Q E h => ?_) (fun cdv A outer s H vs Q E hr h => ?_)
  · obtain ⟨v, o, d, ns, rfl, _⟩ := h
    rfl
  · obtain ⟨v, o, d, ns, rfl, g1, hd, ho, kQ⟩ := h
    have hr1 : Room 1 _ := hr.mono (by decide)
    refine ⟨_, pss_cons (ps_if (PW.pt (pw_or (pt_not (pt_val (pe_callB call_isi (by rfl) T.isn (by decide +kernel) (pa_cons (pv 0) (pa_cons (pe_bltn (v := .ty "tuple") (by rfl) T.tup (by decide +kernel) rfl) pa_nil)))))
        (pw_or1 (pt_cmpR op_ne (pe_callB call_len (by rfl) T.len (by decide +kernel) (pa_cons (pv 0) pa_nil)) pe_int (nomark _))))) (pss_one (ps_ret pe_bl)) pss_nil)
      (pss_cons (ps_if (pt_not (pt_val (pe_callB (cr_all rfl) (by rfl) T.all (by decide +kernel) (pa_cons
        (pe_lc (own := [("word", 2)]) (g := gName 2) (tt := tYes) (te := tAndV (tCall (spB K wordD) [] E0 (tCons (tVar 2) tNil)) (tOp (rIn K false) (tVar 2) (tVar 1))) rfl scPair.nd (pi_tup (pv 0)) (blkOk_by (own := [("word", 2)]) (N := ["thing", "order", "word"]) (sc := defScope sPair) (by decide +kernel))
          (fun _ _ _ _ _ => pg_name (i := 2) scPair.nd rfl (Or.inl rfl)) (fun _ _ _ _ _ => pts_nil) (fun _ _ _ _ _ => pe_and (pe_df W hr1 rfl (pa_cons (pv 2) pa_nil)) (pe_one (pe_cmpR op_in_seq (pv 2) (pv 1) rfl)))) pa_nil)))) (pss_one (ps_ret pe_bl)) pss_nil)
      (pss_one (ps_ret (pe_cmpR op_lt (pe_bm PySem.F.plainAttrs_list PySem.F.slot_list_index PySem.F.type_list_index mt_index (pv 1) (pa_cons (pe_ix ix_tup (pv 0) pe_int (fun _ _ => rfl)) pa_nil)) (pe_bm PySem.F.plainAttrs_list PySem.F.slot_list_index PySem.F.type_list_index mt_index (pv 1) (pa_cons (pe_ix ix_tup (pv 0) pe_int (fun _ _ => rfl)) pa_nil)) (nomark _))))), ?_⟩
    have gv : ∀ {H1 : Hp}, Ex H H1 → EvD K (tVar 0) (start ["thing", "order", "word"] [v, .ref o]) H1 d := fun e => ed_var rfl (Dd.ext e _ _ g1)
    refine q_when (b := !isTup d || !two d) (et_or (et_not (et_B (ed_isi (gv (Ex.refl _)) (isTup_kit d)))) fun hz => ?_) (fun hb H1 e1 => ?_) (fun hb H1 e1 => ?_)
    · obtain ⟨ds, rfl⟩ := isTup_is (notF hz)
      refine et_is (et_test (ev_op (ed_lenT (K := K) (gv (Ex.refl _))) ev_c (rv_ne rfl))) ?_
      show (!decide (V.int (ds.length : Int) = V.int 2)) = !decide (ds.length = 2)
      congr 1
      exact decide_eq_decide.mpr ⟨fun z => by injection z with z; omega, fun z => by rw [z]; rfl⟩
    · refine s_retD (K := K) (ed_bl ev_c) fun u H2 e2 gu => ?_
      cases gu
      have z : pairB ns d = false := by
        unfold pairB
        cases h1 : isTup d <;> cases h2 : two d <;> rw [h1, h2] at hb <;> first | rfl | cases hb
      have k := kQ H2 (e1.trans e2)
      rw [z] at k
      exact k
    · have ht : isTup d = true := by
        cases h1 : isTup d
        · rw [h1] at hb
          cases hb
        · rfl
      have h2 : two d = true := by
        cases h1 : two d
        · rw [ht, h1] at hb
          cases hb
        · rfl
      obtain ⟨ds, rfl⟩ := isTup_is ht
      have sm := small_tup hd
      have len2 : ds.length = 2 := of_decide_eq_true h2
      have ho1 := ex_l e1 ho
      refine q_when (b := !(ds.all (inD ns))) (et_not (et_B (ev_allC (j := 2) (vs := [2]) (inD ns) (it_T (tl := tVar 0) (gv e1)) (by omega) (fun _ => rfl) fun x d' H2 e2 m g => ?_))) (fun hb2 H2 e2 => ?_) (fun hb2 H2 e2 => ?_)
      · refine ev_andV (a := wordD d') (b := decide (strD d' ∈ ns)) (ev_spB (ed_var rfl g) (sm.2 d' m)) fun hw => ?_
        have e := word_is hw
        rw [e] at g
        cases g
        exact fun H3 e3 Q3 q3 => ⟨_, rfl, _, rfl, o, ns.map V.str, rfl, .inl (ex_l (e2.trans e3) ho1), rfl, flat_txts ns, by
          show Q3 (.bl (inV (.str (strD d')) (ns.map V.str))) H3
          rw [inV_txts]
          exact q3 H3 (Ex.refl _)⟩
      · refine s_retD (K := K) (ed_bl ev_c) fun u H3 e3 gu => ?_
        cases gu
        have z : pairB ns (.tuple ds) = false := by
          unfold pairB
          show ((true && two (.tuple ds)) && (ds.all (inD ns) && ordD ns (.tuple ds))) = false
          cases h1 : ds.all (inD ns)
          · rw [Bool.false_and, Bool.and_false]
          · rw [h1] at hb2
            cases hb2
        have k := kQ H3 ((e1.trans e2).trans e3)
        rw [z] at k
        exact k
      · have hall : ds.all (inD ns) = true := notF hb2
        match ds, len2, hall, g1, h2 with
        | [a, b], _, hall, g1, h2 =>
          rw [List.all_cons, List.all_cons, Bool.and_eq_true, Bool.and_eq_true] at hall
          obtain ⟨ha, hb, _⟩ := hall
          unfold inD at ha hb
          rw [Bool.and_eq_true, decide_eq_true_eq] at ha hb
          have e12 := e1.trans e2
          have ga : EvD K (tVar 0) (start ["thing", "order", "word"] [v, .ref o]) H2 (.tuple [a, b]) := ed_var rfl (Dd.ext e12 _ _ g1)
          have xa : Ev (tOp (rIxT K) (tVar 0) (tC (.int 0))) (start ["thing", "order", "word"] [v, .ref o]) H2 (.str (strD a)) := by
            have r := ed_ixT (K := K) (j := 0) ga (fun _ _ => ev_c) (show [a, b][0]? = some a from rfl)
            rw [word_is ha.1] at r
            exact r.str
          have xb : Ev (tOp (rIxT K) (tVar 0) (tC (.int 1))) (start ["thing", "order", "word"] [v, .ref o]) H2 (.str (strD b)) := by
            have r := ed_ixT (K := K) (j := 1) ga (fun _ _ => ev_c) (show [a, b][1]? = some b from rfl)
            rw [word_is hb.1] at r
            exact r.str
          refine s_retD (K := K) (ed_bl (ev_op (ev_index (ev_var rfl) (ex_l e12 ho) xa ha.2) (ev_index (ev_var rfl) (ex_l e12 ho) xb hb.2) rv_I0)) fun u H3 e3 gu => ?_
          cases gu
          have z : pairB ns (.tuple [a, b]) = decide (((ixOf (strD a) ns : Nat) : Int) < ((ixOf (strD b) ns : Nat) : Int)) := by
            unfold pairB
            show ((true && two (.tuple [a, b])) && ([a, b].all (inD ns) && decide (ixOf (strD a) ns < ixOf (strD b) ns))) = _
            have q : [a, b].all (inD ns) = true := by
              rw [List.all_cons, List.all_cons]
              unfold inD
              rw [ha.1, hb.1, decide_eq_true ha.2, decide_eq_true hb.2]
              rfl
            rw [q, h2, Bool.true_and, Bool.true_and, Bool.true_and]
            exact decide_eq_decide.mpr (by omega)
          have k := kQ H3 (e12.trans e3)
          rw [z] at k
          exact k
theorem scPairs : FnScope ["thing", "order", "pair"] ["thing", "order"] (defScope sPairs) := ⟨rfl, rfl, rfl, by decide +kernel, rfl, by decide +kernel, by decide +kernel⟩
theorem ok_pairs (F : Fun K "are_pairs" "are_pairs" sPairs f fd) (T : Txt mg) (W : Df P w K mg base "is_pair" ["thing", "order"] 2 (spPair K)) : FnOk P w K mg base CX0 3 f fd ["thing", "order"] (spPairs K) := by
  refine F.ok scPairs (fun vs H Q E h => ?_) (fun cdv A outer s H vs Q E hr h => ?_)
  · obtain ⟨v, o, d, ns, rfl, _⟩ := h
    rfl
  · obtain ⟨v, o, d, ns, rfl, g1, hd, ho, kQ⟩ := h
    have hr2 : Room 2 _ := hr.mono (by decide)
    refine ⟨_, pss_one (ps_ret (pe_and (pe_callB call_isiT (by rfl) T.isn (by decide +kernel) (pa_cons (pv 0) (pa_cons (pe_tup (pa_cons (pe_bltn (v := .ty "list") (by rfl) T.lst (by decide +kernel) rfl) (pa_cons (pe_bltn (v := .ty "tuple") (by rfl) T.tup (by decide +kernel) rfl) pa_nil))) pa_nil)))
      (pe_one (pe_callB (cr_all rfl) (by rfl) T.all (by decide +kernel) (pa_cons
        (pe_lc (own := [("pair", 2)]) (g := gName 2) (tt := tYes) (te := tCall (spPair K) [] E0 (tCons (tVar 2) (tCons (tVar 1) tNil))) rfl scPairs.nd (pi_seq (pv 0)) (blkOk_by (own := [("pair", 2)]) (N := ["thing", "order", "pair"]) (sc := defScope sPairs) (by decide +kernel))
          (fun _ _ _ _ _ => pg_name (i := 2) scPairs.nd rfl (Or.inl rfl)) (fun _ _ _ _ _ => pts_nil) (fun _ _ _ _ _ => pe_df W hr2 rfl (pa_cons (pv 2) (pa_cons (pv 1) pa_nil)))) pa_nil))))), ?_⟩
    have sm := small_seq hd
    refine s_retD (K := K) (ed_bl (z := pairsB ns d) (ev_andV (a := isSeq d) (b := (seqOf d).all (pairB ns)) (ev_isiLT (ed_var rfl g1)) fun hs => ev_allC (j := 2) (vs := [2]) (pairB ns) (it_seq (ed_var rfl g1) hs) (by omega) (fun _ => rfl) fun x d' H2 e2 m g => ?_)) fun u H1 e1 gu => ?_
    · exact fun H3 e3 Q3 q3 => ⟨_, rfl, _, rfl, x, o, d', ns, rfl, Dd.ext e3 _ _ g, sm.2 d' m, ex_l (e2.trans e3) ho, fun H4 e4 => q3 H4 e4⟩
    · cases gu
      exact kQ H1 e1
end
end K54
set_option maxHeartbeats 8000000
namespace K54
open PySem PySem.Spec PyProof.Rows L2 Evl My LamX
abbrev prs (ps : List (Str × Str)) : List PyData := ps.map fun p => .tuple [.str p.1, .str p.2]
section
variable {K : PySem.W.Frag} {σ : L2.St} {H H0 : Hp} {te tl ta tb : TE} {d : PyData} {ds : List PyData} {ns : List Str} {o : Addr} {s : Str} {v : V} {g : TG} {tz ts : TS} {D : Ends}
theorem ed_ofL (h : EvDL K te σ H ds) : EvD K te σ H (.list ds) := fun H1 e Q q => h H1 e _ fun p xs H2 _ e2 hx gx => q (.ref p) H2 e2 (.lst (sq_of hx) gx)
/-- a walk over a list or a tuple that stands, as it stood in H0 -/
theorem s_forQ (e0 : Ex H0 H) (gd : Dd K H0 v d) (hs : isSeq d = true) (h : Ev tl σ H v) (Pv : Nat → L2.St → Hp → Prop) (h0 : ∀ H1, Ex H H1 → Pv 0 σ H1) (hl : ∀ i σ' H', Pv i σ' H' → Ex H0 H')
    (step : ∀ i x di σ' H', (seqOf d)[i]? = some di → Dd K H' x di → Pv i σ' H' → g x σ' H' fun σ2 H2 => ts { D with nx := Pv (i + 1), ct := Pv (i + 1), bk := D.nx } σ2 H2)
    (done : ∀ σ' H', Pv (seqOf d).length σ' H' → D.nx σ' H') : tFor (iSeq K tl) g ts D σ H := by
  cases d with
  | list ds =>
    cases gd with
    | @lst a xs _ hx ha =>
      refine .inl (h H (Ex.refl _) _ fun H1 e1 => ⟨a, rfl, ⟨xs, ex_l (e0.trans e1) hx⟩, for_list (xs := xs) Pv (h0 H1 e1) (fun i σ' H' _ p => ex_l (hl i σ' H' p) hx) (fun i x σ' H' hi p => ?_) fun σ' H' p => done σ' H' (by rw [ha.len] at p; exact p)⟩)
      obtain ⟨di, hdi, gdi⟩ := (Dds.ext (hl i σ' H' p) _ _ ha).get hi
      exact step i x di σ' H' hdi gdi p
  | tuple ds =>
    cases gd with
    | @tup a xs _ hx ha =>
      refine .inr (h H (Ex.refl _) _ fun H1 e1 => ⟨a, rfl, ⟨xs, ex_t (e0.trans e1) hx⟩, for_tup (xs := xs) Pv (h0 H1 e1) (fun i σ' H' _ p => ex_t (hl i σ' H' p) hx) (fun i x σ' H' hi p => ?_) fun σ' H' p => done σ' H' (by rw [ha.len] at p; exact p)⟩)
      obtain ⟨di, hdi, gdi⟩ := (Dds.ext (hl i σ' H' p) _ _ ha).get hi
      exact step i x di σ' H' hdi gdi p
  | _ => cases hs
theorem q_forQ (e0 : Ex H0 H) (gd : Dd K H0 v d) (hs : isSeq d = true) (h : Ev tl σ H v) (Pv : Nat → L2.St → Hp → Prop) (h0 : ∀ H1, Ex H H1 → Pv 0 σ H1) (hl : ∀ i σ' H', Pv i σ' H' → Ex H0 H')
    (step : ∀ i x di σ' H', (seqOf d)[i]? = some di → Dd K H' x di → Pv i σ' H' → g x σ' H' fun σ2 H2 => ts { D with nx := Pv (i + 1), ct := Pv (i + 1), bk := tz D } σ2 H2)
    (done : ∀ σ' H', Pv (seqOf d).length σ' H' → tz D σ' H') : tSeq (tFor (iSeq K tl) g ts) tz D σ H :=
  s_forQ (D := { D with nx := tz D }) e0 gd hs h Pv h0 hl step done
/-- [word for word in order if test] -/
theorem edl_filt {j : Nat} {vs : List Nat} {tt : TT} (f : Str → Bool) (hx : Ev tl σ H (.ref o)) (ho : SqL K H o (ns.map V.str)) (hz : ns.length ≤ 40000) (hw : ∀ x, wipe ((wipe σ vs).set j (some x)) vs = wipe σ vs) (hj : ∀ x, ((wipe σ vs).set j (some x))[j]? = some (some x))
    (test : ∀ s H1, Ex H H1 → s ∈ ns → EvT tt ((wipe σ vs).set j (some (.str s))) H1 (f s)) : EvDL K (tLc (iList K tl) (gName j) tt (tVar j) vs) σ H (txts (ns.filter f)) := by
  have it : EvIt K (iList K tl) σ H (txts ns) := it_L hx ho (Dds.strs ns)
  have r := edl_lc (K := K) (tt := tt) (te := tVar j) (fun d => f (strD d)) (fun d => .str (strD d)) it (by rw [List.length_map]; exact hz) (fun _ _ _ => rfl) hw (fun x d H1 e m g => ?_) (fun x d H1 e m g _ => ?_)
  · have e2 : ((txts ns).filter fun d => f (strD d)).map (fun d => PyData.str (strD d)) = txts (ns.filter f) := by
      rw [txts, List.filter_map, List.map_map]
      rfl
    rw [e2] at r
    exact r
  · obtain ⟨s, hs, rfl⟩ := List.mem_map.mp m
    cases g
    exact test s H1 e hs
  · obtain ⟨s, hs, rfl⟩ := List.mem_map.mp m
    cases g
    exact ed_str (ev_var (hj _))
end
def spBelow (K : PySem.W.Frag) : Sp := fun vs H Q _ => ∃ (o : Addr) (v : V) (d : PyData) (ns : List Str) (ps : List (Str × Str)), vs = [.ref o, v] ∧ SqL K H o (ns.map V.str) ∧ NamesOk ns ∧ Dd K H v d ∧ isSeq d = true ∧ seqOf d = prs ps ∧ PairsOk ns ps ∧
  ∀ b H', Ex H H' → H b = none → DcAt H' b ns (belF ns ps ns) → Q (.ref b) H'
theorem take_next {α : Type} {ns : List α} {i : Nat} {l : α} (h : ns[i]? = some l) : ns.take (i + 1) = ns.take i ++ [l] := by
  rw [List.take_add_one, h]
  rfl
theorem nd_take {ns : List Str} (nd : ns.Nodup) {i : Nat} {l : Str} (h : ns[i]? = some l) : l ∉ ns.take i := fun m => by
  obtain ⟨j, hj⟩ := List.mem_iff_getElem?.mp m
  rw [List.getElem?_take] at hj
  split at hj
  · rename_i lt
    have e1 := ixOf_nd nd hj
    have e2 := ixOf_nd nd h
    omega
  · cases hj
theorem low_take {ns : List Str} (nd : ns.Nodup) {ps : List (Str × Str)} (P : PairsOk ns ps) {p : Str × Str} (hp : p ∈ ps) {i : Nat} (h : ns[i]? = some p.2) : p.1 ∈ ns.take i := by
  obtain ⟨a, b, ab, h1, h2⟩ := P.2 p hp
  have e1 := ixOf_nd nd h2
  have e2 := ixOf_nd nd h
  have : a < i := by omega
  refine List.mem_iff_getElem?.mpr ⟨a, ?_⟩
  rw [List.getElem?_take, if_pos this]
  exact h1
/-- what was found behind the first pairs -/
def foundJ (ns : List Str) (ps : List (Str × Str)) (bl : Str → List Str) (l : Str) (j : Nat) : List Str := [ns.headD "", l] ++ ((ps.take j).filter fun p => decide (p.2 = l)).flatMap fun p => bl p.1
theorem foundJ_yes {ns : List Str} {ps : List (Str × Str)} {bl : Str → List Str} {l : Str} {j : Nat} {p : Str × Str} (h : ps[j]? = some p) (e : p.2 = l) : foundJ ns ps bl l (j + 1) = foundJ ns ps bl l j ++ bl p.1 := by
  unfold foundJ
  rw [take_next h, List.filter_append, List.flatMap_append, List.append_assoc]
  congr 2
  rw [List.filter_cons, if_pos (decide_eq_true e)]
  simp
theorem foundJ_no {ns : List Str} {ps : List (Str × Str)} {bl : Str → List Str} {l : Str} {j : Nat} {p : Str × Str} (h : ps[j]? = some p) (e : ¬ p.2 = l) : foundJ ns ps bl l (j + 1) = foundJ ns ps bl l j := by
  unfold foundJ
  rw [take_next h, List.filter_append, List.flatMap_append]
  rw [List.filter_cons, if_neg (by rw [decide_eq_false e]; exact Bool.false_ne_true)]
  simp
theorem foundJ_all (ns : List Str) (ps : List (Str × Str)) (bl : Str → List Str) (l : Str) : foundJ ns ps bl l ps.length = foundOf ns ps bl l := by
  unfold foundJ foundOf
  rw [List.take_length]
theorem foundJ_len {ns : List Str} {ps : List (Str × Str)} {bl : Str → List Str} {l : Str} (hb : ∀ s, (bl s).length ≤ ns.length) : ∀ j, j ≤ ps.length → (foundJ ns ps bl l j).length ≤ 2 + j * ns.length
  | 0, _ => by
    unfold foundJ
    simp
  | j + 1, h => by
    have ih := foundJ_len (ns := ns) (ps := ps) (bl := bl) (l := l) hb j (by omega)
    have hp := List.getElem?_eq_getElem (show j < ps.length by omega)
    by_cases e : (ps[j]).2 = l
    · rw [foundJ_yes hp e, List.length_append, Nat.succ_mul]
      have := hb (ps[j]).1
      omega
    · rw [foundJ_no hp e, Nat.succ_mul]
      omega
theorem prs_at {ps : List (Str × Str)} {j : Nat} {d : PyData} (h : (prs ps)[j]? = some d) : ∃ p, ps[j]? = some p ∧ d = .tuple [.str p.1, .str p.2] := by
  rw [List.getElem?_map] at h
  cases hp : ps[j]? with
  | none =>
    rw [hp] at h
    cases h
  | some p =>
    rw [hp] at h
    cases h
    exact ⟨p, rfl, rfl⟩
theorem heads {ns : List Str} (h : 1 ≤ ns.length) : atI (ns.map V.str) 0 = some (.str (ns.headD "")) := by
  cases ns with
  | nil => cases h
  | cons a r => exact atI_nat (xs := (a :: r).map V.str) (j := 0) rfl
def NB : List Str := ["order", "pairs", "below", "level", "found", "low", "high", "word"]
section
variable {P : Program} {w : World} {K : PySem.W.Frag} {mg : Str → Option Value} {base : Heap} {f : Addr} {fd : FuncData}
theorem scBelow : FnScope NB ["order", "pairs"] (defScope sBelow) := ⟨rfl, rfl, rfl, by decide +kernel, rfl, by decide +kernel, by decide +kernel⟩
theorem ok_below (F : Fun K "levels_below" "levels_below" sBelow f fd) : FnOk P w K mg base CX0 1 f fd ["order", "pairs"] (spBelow K) := by
  refine F.ok scBelow (fun vs H Q E h => ?_) (fun cdv A outer s H vs Q E hr h => ?_)
  · obtain ⟨o, v, d, ns, ps, rfl, _⟩ := h
    rfl
  · obtain ⟨o, v, d, ns, ps, rfl, ho, N, gd, hsq, hps, PO, kQ⟩ := h
    have hu := hu_of hr
    refine ⟨_, pss_cons (ps_set (i := 2) scBelow.nd rfl (Or.inl rfl) pe_dnewK)
      (pss_cons (ps_for PassesOwn.never rfl (pi_list (pv 0)) (pg_name (i := 3) scBelow.nd rfl (Or.inl rfl))
        (pss_cons (ps_set (i := 4) scBelow.nd rfl (Or.inr rfl) (pe_lst (pa_cons (pe_ix ix_list (pv 0) pe_int (fun _ _ => rfl)) (pa_cons (pv 3) pa_nil))))
        (pss_cons (ps_for PassesOwn.never rfl (pi_seq (pv 1)) (pg_tup rfl (pgs_cons (pg_name (i := 5) scBelow.nd rfl (Or.inl rfl)) (pgs_cons (pg_name (i := 6) scBelow.nd rfl (Or.inl rfl)) pgs_nil)))
          (pss_one (ps_if (pt_cmpR op_eq (pv 6) (pv 3) (nomark _)) (pss_one (ps_expr (pe_bm PySem.F.plainAttrs_list PySem.F.slot_list_extend PySem.F.type_list_extend mt_extend (pv 4) (pa_cons (pe_dget hu (pv 2) (pv 5) (fun _ _ => rfl)) pa_nil)))) pss_nil)))
        (pss_one (ps_dput hu (pv 2) (pv 3) (pe_lc (own := [("word", 7)]) (g := gName 7) (tt := tTest (tOp (rIn K false) (tVar 7) (tVar 4))) (te := tVar 7) rfl scBelow.nd (pi_list (pv 0)) (blkOk_by (own := [("word", 7)]) (N := NB) (sc := defScope sBelow) (by decide +kernel))
          (fun _ _ _ _ _ => pg_name (i := 7) scBelow.nd rfl (Or.inl rfl)) (fun _ _ _ _ _ => pts_one (pt_cmpR op_in_seq (pv 7) (pv 4) rfl)) (fun _ _ _ _ _ => pv 7)) rfl)))))
      (pss_one (ps_ret (pv 2)))), ?_⟩
    have hlen : ns.length ≤ 8 := N.eight
    -- the dict
    refine fun b nb => ?_
    have e1 : Ex H (upd H b (.dK [])) := Ex.new nb
    refine q_forLn (xs := ns.map V.str) (ev_var rfl) (ex_l e1 ho)
      (fun i σ' H' => (∃ x3 x4 x5 x6 x7 : Option V, σ' = [some (.ref o), some v, some (.ref b), x3, x4, x5, x6, x7]) ∧ But b (upd H b (.dK [])) H' ∧ ∃ ka, H' b = some (.dK ka) ∧ KvL H' ka (ns.take i) (belF ns ps (ns.take i))) ?_ ?_ ?_ ?_
    · intro H1 ex
      exact ⟨⟨_, _, _, _, _, rfl⟩, But.ofEx ex, [], ex _ _ upd_same, .nil⟩
    · rintro i σ' H' _ ⟨_, but, _⟩
      exact ex_l (but.of e1 nb) ho
    · rintro i x σ' H' hx ⟨⟨x3, x4, x5, x6, x7, rfl⟩, but, ka, hka, kv⟩
      have eH : Ex H H' := but.of e1 nb
      rw [List.getElem?_map] at hx
      obtain ⟨l, hl, rfl⟩ : ∃ l, ns[i]? = some l ∧ V.str l = x := by
        cases hq : ns[i]? with
        | none =>
          rw [hq] at hx
          cases hx
        | some l =>
          rw [hq] at hx
          exact ⟨l, rfl, Option.some.inj hx⟩
      have hbl : ∀ s, (belF ns ps (ns.take i) s).length ≤ ns.length := belF_len ns ps _
      generalize hbe : belF ns ps (ns.take i) = bl at kv hbl
      refine q_asgL (el_lst (ea_cons (ev_op (ev_var rfl) ev_c (rv_ixL (ex_l eH ho) (heads N.one))) (ea_cons (ev_var rfl) ea_nil)) (by simp)) fun fp H3 nfp e3 hfp => ?_
      refine q_forQ (K := K) (d := d) (Ex.trans eH e3) gd hsq (ev_var rfl)
        (fun j σ' H'' => (∃ y5 y6 y7 : Option V, σ' = [some (.ref o), some v, some (.ref b), some (.str l), some (.ref fp), y5, y6, y7]) ∧ But fp H3 H'' ∧ H'' fp = some (.lst ((foundJ ns ps bl l j).map V.str))) ?_ ?_ ?_ ?_
      · intro H4 e4
        refine ⟨⟨_, _, _, rfl⟩, But.ofEx e4, ?_⟩
        rw [e4 _ _ hfp]
        rfl
      · rintro j σ' H'' ⟨_, but2, _⟩
        exact eH.trans (but2.of e3 nfp)
      · rintro j x di σ' H'' hd gdi ⟨⟨y5, y6, y7, rfl⟩, but2, hf⟩
        have e13 : Ex H' H'' := but2.of e3 nfp
        rw [hps] at hd
        obtain ⟨p, hp, rfl⟩ := prs_at hd
        have hpm : p ∈ ps := List.mem_of_getElem? hp
        have hj : j < ps.length := (List.getElem?_eq_some_iff.mp hp).1
        cases gdi with
        | @tup t xs _ ht ha =>
          cases ha with
          | cons g1 t1 =>
            cases t1 with
            | cons g2 t2 =>
              cases t2
              cases g1
              cases g2
              refine ⟨t, _, rfl, ht, rfl, _, _, rfl, _, _, rfl, rfl, ?_⟩
              refine s_when (b := decide (p.2 = l)) (et_is (et_test (ev_op (ev_var rfl) (ev_var rfl) (rv_eq rfl))) ?_) (fun hb H5 e5 => ?_) (fun hb H5 e5 => ?_)
              · exact decide_eq_decide.mpr ⟨fun z => V.str.inj z, fun z => by rw [z]⟩
              · have pl : p.2 = l := of_decide_eq_true hb
                have low : p.1 ∈ ns.take i := low_take N.nd PO hpm (by rw [pl]; exact hl)
                obtain ⟨u, hu1, au, rfl, hau⟩ := (kv.ext (e13.trans e5)).some low
                have hbk : H5 b = some (.dK ka) := e5 _ _ (e13 _ _ hka)
                refine ⟨_, rfl, .inl ⟨rfl, _, sq_of (e5 _ _ hf)⟩, _, rfl, _, rfl, b, _, rfl, by rw [← hu1]; exact DGet.k (k := .inr p.1) hbk, fp, au, _, _, rfl, rfl, e5 _ _ hf, hau, ?_, ⟨_, _, _, rfl⟩, But.upd (but2.ex e5), ?_⟩
                · rw [List.length_map, List.length_map]
                  have z1 := foundJ_len (ns := ns) (ps := ps) (bl := bl) (l := l) hbl j (Nat.le_of_lt hj)
                  have z2 := hbl p.1
                  have z3 : j * ns.length ≤ 10 * 8 := Nat.mul_le_mul (by have := PO.1; omega) hlen
                  exact sz_of (by omega)
                · rw [upd_same, foundJ_yes hp pl, List.map_append]
              · refine ⟨⟨_, _, _, rfl⟩, but2.ex e5, ?_⟩
                rw [foundJ_no hp (of_decide_eq_false hb)]
                exact e5 _ _ hf
      · rintro σ' H4 ⟨⟨y5, y6, y7, rfl⟩, but2, hf⟩
        rw [hps, List.length_map, foundJ_all] at hf
        have e14 : Ex H' H4 := but2.of e3 nfp
        refine (edl_filt (K := K) (j := 7) (vs := [7]) (fun s => decide (s ∈ foundOf ns ps bl l)) (ev_var rfl) (ex_l (eH.trans e14) ho) (by omega) (fun _ => rfl) (fun _ => rfl) (fun s H5 e5 _ => ?_)) H4 (Ex.refl _) _ fun q xs H5 nq e5 hq gq => ?_
        · exact et_test (ev_inL (K := K) (ev_var rfl) (ed_var rfl (.lst (sq_of (e5 _ _ hf)) (Dds.strs _))))
        · rw [Dds.txts gq] at hq
          have hb5 : H5 b = some (.dK ka) := e5 _ _ (e14 _ _ hka)
          have kv5 := kv.ext (e14.trans e5)
          have nin := nd_take N.nd hl
          refine ⟨_, rfl, _, rfl, b, _, rfl, DPut.k (k := .inr l) hb5 (by rw [kv5.len, List.length_take]; exact Nat.lt_of_le_of_lt (Nat.min_le_left _ _) (sz_lt (by have := (List.getElem?_eq_some_iff.mp hl).1; omega))), ⟨_, _, _, _, _, rfl⟩, ?_, _, upd_same, ?_⟩
          · exact But.upd fun a u na h => e5 a u (e14 a u (but a u na h))
          · rw [take_next hl, belF_snoc, hbe]
            refine KvL.but (p := b) (H := H5) ((But.refl b H5).upd) (fun ys z => by rw [hb5] at z; cases z) (kv5.snoc nin ⟨q, rfl, hq⟩)
    · rintro σ' H' ⟨⟨x3, x4, x5, x6, x7, rfl⟩, but, ka, hka, kv⟩
      rw [List.length_map, List.take_length] at kv
      exact s_ret (v := .ref b) (ev_var rfl) fun H2 e2 => kQ b H2 ((but.of e1 nb).trans e2) nb ⟨ka, e2 _ _ hka, kv.ext e2⟩
end
end K54
set_option maxHeartbeats 8000000
namespace K54
open PySem PySem.Spec PyProof.Rows L2 Evl My LamX
/-! own errors -/
structure InvE (P : Program) (w : World) (K : PySem.W.Frag) (mg : Str → Option Value) (base : Heap) (nm : Str) (C : Addr) : Prop where
  ex : ∃ (fI : Addr) (fd : FuncData), OexC K C ∧ PySem.W.findIn K (.ref C) "__init__" = some (some (.ref fI)) ∧ PySem.W.typeIn K (.ref fI) = some (.type "function") ∧ FnOk P w K mg base CX0 1 fI fd ["self", "value"] (spOne C "value") ∧ Binds K fd ["self", "value"] []
  g : mg nm = some (.ref C)
theorem pmk_invE {X : Cx} {C : Addr} {nm : Str} {e : Expr} {te : TE} {p pos : Pos} (V : InvE X.prog X.w X.K X.mg X.base nm C) (hr : Room 2 X.A) (hg : Gl X nm) (he : PE X e te) (hn : (nm == ("__debug__" : Str)) = false := by decide) (hs : starEach [e] X.env = (false, eval e X.env) :: starEach [] X.env := by rfl) :
    PMk X (.Call (.Name nm p) [e] [] pos) (tMkO C (spOne C "value") [] (tCons te tNil)) := by
  obtain ⟨fI, fd, T, iC, tI, F, b⟩ := V.ex
  refine pmk_oex T iC tI F hr b .nil passN hg V.g (pa_cons he pa_nil hs) hn hs ?_
  rfl
section
variable {σ : L2.St} {H : Hp} {te : TE} {C : Addr} {f : Str} {v : V}
theorem mkO1 {Q : XK} (h : Ev te σ H v) (k : ∀ d H', Ex H H' → H' d = some (.xd [(f, v)]) → Q (.ref C) (some d) H') : tMkO C (spOne C f) [] (tCons te tNil) σ H Q :=
  h H (Ex.refl H) _ fun H2 e2 => ⟨(by decide : 1 ≤ 1000), fun a ha => ⟨a, v, rfl, upd_same, fun dx n ne => ⟨rfl, dx, [(f, v)], by rw [upd_ne (Ne.symm ne), upd_same], upd_same, by rw [upd_ne ne] at n; exact n,
    k dx _ (fun b o hb => by
      rw [upd_ne ne] at n
      have hb2 := e2 b o hb
      have n1 : b ≠ dx := ne_of_none hb2 n
      have n2 : b ≠ a := ne_of_none hb2 ha
      rw [upd_ne n1, del_ne n2, upd_ne n1, upd_ne n2, upd_ne n2]
      exact hb2) upd_same⟩⟩⟩
end
/-! instances of Levels -/
structure LvOk (ns : List Str) (bl : Str → List Str) : Prop where
  N : NamesOk ns
  eight : ∀ s, (bl s).length ≤ 8
  sub : ∀ s, ∀ w ∈ bl s, w ∈ ns
def LvAt (C : Addr) (H : Hp) (L : Addr) (ns : List Str) (bl : Str → List Str) : Prop := ∃ dx o b, H L = some (.ins C dx [("order", .ref o), ("below", .ref b)]) ∧ H o = some (.lst (ns.map V.str)) ∧ DcAt H b ns bl
def hasD (ns : List Str) (d : PyData) : Bool := isStr d && decide (strD d ∈ ns)
/-- what the class's facts are -/
structure LvC (K : PySem.W.Frag) (C : Addr) : Prop where
  cl : Cls K C
  no : NoAttr K C "order"
  nb : NoAttr K C "below"
structure MD (P : Program) (w : World) (K : PySem.W.Frag) (mg : Str → Option Value) (base : Heap) (C : Addr) (m : Str) (ps : List Str) (k : Nat) (sp : Sp) : Prop where
  ex : ∃ (f : Addr) (fd : FuncData), Meth K C m f ∧ FnOk P w K mg base CX0 k f fd ps sp ∧ Binds K fd ps []
structure MX (P : Program) (w : World) (K : PySem.W.Frag) (mg : Str → Option Value) (base : Heap) (C : Addr) (m : Str) (ps : List Str) (k : Nat) (sp : Sp) : Prop where
  ex : ∃ (f : Addr) (fd : FuncData), Meth K C m f ∧ FnOk P w K mg base (L2.CX P w) k f fd ps sp ∧ Binds K fd ps []
section
variable {X : Cx} {C : Addr} {m : Str} {ps : List Str} {k : Nat} {sp : Sp} {o e : Expr} {es : List Expr} {apos pos : Pos} {ta : TE} {t : TA} {E : XK} {pl : Sem Bool}
theorem pe_md (D : MD X.prog X.w X.K X.mg X.base C m ps k sp) (c : Cls X.K C) (hr : Room k X.A) (he : PE X o ta) (ha : PA X (e :: es) t)
    (hst : starEach (e :: es) X.env = (false, eval e X.env) :: starEach es X.env := by rfl) (hpl : (backTo pos (starEach es X.env)).any (·.1) = false := by rfl)
    (ht : eval (.Call (.Attribute o m apos) (e :: es) [] pos) X.env = (do
      let ov ← eval o X.env
      standAt apos.atName
      let (f, first) ← holding [ov] (getMethod ov m pl)
      callWith pos f first (backTo pos (starEach (e :: es) X.env)) (backToKw pos (keywordEach [] X.env))) := by rfl) :
    PE X (.Call (.Attribute o m apos) (e :: es) [] pos) (tMeth C m sp [] E0 ta t) := by
  obtain ⟨f, fd, hm, F, b⟩ := D.ex
  exact pe_meth he c hm F hr b .nil (fun _ _ _ _ _ _ _ h => h.elim) ha hst hpl ht
theorem pe_md0 (D : MD X.prog X.w X.K X.mg X.base C m ps k sp) (c : Cls X.K C) (hr : Room k X.A) (he : PE X o ta)
    (ht : eval (.Call (.Attribute o m apos) [] [] pos) X.env = (do
      let ov ← eval o X.env
      standAt apos.atName
      let (f, first) ← holding [ov] (getMethod ov m pl)
      callWith pos f first (backTo pos (starEach [] X.env)) (backToKw pos (keywordEach [] X.env))) := by rfl) :
    PE X (.Call (.Attribute o m apos) [] [] pos) (tMeth C m sp [] E0 ta tNil) := by
  obtain ⟨f, fd, hm, F, b⟩ := D.ex
  exact pe_meth0 he c hm F hr b .nil (fun _ _ _ _ _ _ _ h => h.elim) ht
theorem pe_mx (D : MX X.prog X.w X.K X.mg X.base C m ps k sp) (c : Cls X.K C) (hr : Room k X.A) (hx : Passes (L2.CX X.prog X.w) X E) (he : PE X o ta) (ha : PA X (e :: es) t)
    (hst : starEach (e :: es) X.env = (false, eval e X.env) :: starEach es X.env := by rfl) (hpl : (backTo pos (starEach es X.env)).any (·.1) = false := by rfl)
    (ht : eval (.Call (.Attribute o m apos) (e :: es) [] pos) X.env = (do
      let ov ← eval o X.env
      standAt apos.atName
      let (f, first) ← holding [ov] (getMethod ov m pl)
      callWith pos f first (backTo pos (starEach (e :: es) X.env)) (backToKw pos (keywordEach [] X.env))) := by rfl) :
    PE X (.Call (.Attribute o m apos) (e :: es) [] pos) (tMeth C m sp [] E ta t) := by
  obtain ⟨f, fd, hm, F, b⟩ := D.ex
  exact pe_meth he c hm F hr b .nil hx ha hst hpl ht
end
section
variable {K : PySem.W.Frag} {C L D : Addr} {σ : L2.St} {H : Hp} {ns : List Str} {bl : Str → List Str} {i : Nat} {te ta : TE}
theorem LvAt.ext {H' : Hp} (e : Ex H H') (h : LvAt C H L ns bl) : LvAt C H' L ns bl := by
  obtain ⟨dx, o, b, h1, h2, h3⟩ := h
  exact ⟨dx, o, b, e _ _ h1, e _ _ h2, h3.ext e⟩
theorem LvAt.extN {H' : Hp} (e : ExtN H H') (h : LvAt C H L ns bl) : LvAt C H' L ns bl := by
  obtain ⟨dx, o, b, h1, h2, h3⟩ := h
  exact ⟨dx, o, b, e _ _ h1 (fun _ z => nomatch z), e _ _ h2 (fun _ z => nomatch z), h3.extN e⟩
/-- x.order -/
theorem ed_order (c : LvC K C) (h : LvAt C H L ns bl) (ha : Ev ta σ H (.ref L)) : EvD K (tFld K ta "order") σ H (.list (txts ns)) := fun H1 e Q q => ha H1 e _ fun H2 e2 => by
  obtain ⟨dx, o, b, h1, h2, h3⟩ := h.ext (e.trans e2)
  exact ⟨L, C, dx, _, .ref o, rfl, h1, c.cl, c.no, rfl, q _ H2 e2 (.lst (sq_of h2) (Dds.strs _))⟩
/-- x.below[s] -/
theorem ed_below (c : LvC K C) (h : LvAt C H L ns bl) (ha : Ev ta σ H (.ref L)) {s : Str} (hs : s ∈ ns) (hy : Ev te σ H (.str s)) : EvD K (tDGet (tFld K ta "below") te) σ H (.list (txts (bl s))) := fun H1 e Q q => ha H1 e _ fun H2 e2 => by
  obtain ⟨dx, o, b, h1, h2, h3⟩ := h.ext (e.trans e2)
  refine ⟨L, C, dx, _, .ref b, rfl, h1, c.cl, c.nb, rfl, ?_⟩
  refine hy H2 (e.trans e2) _ fun H3 e3 => ?_
  obtain ⟨ka, k1, k2⟩ := h3.ext e3
  obtain ⟨v, k3, g⟩ := k2.some hs
  exact ⟨b, v, rfl, by rw [← k3]; exact DGet.k (k := .inr s) k1, q v H3 (e2.trans e3) g.dd⟩
/-- s in x.below -/
theorem ev_inBelow (c : LvC K C) (h : LvAt C H L ns bl) (ha : Ev ta σ H (.ref L)) {s : Str} (hy : Ev te σ H (.str s)) : Ev (tDIn te (tFld K ta "below")) σ H (.bl (decide (s ∈ ns))) := fun H1 e Q q =>
  hy H1 e _ fun H2 e2 => ha H2 (e.trans e2) _ fun H3 e3 => by
    obtain ⟨dx, o, b, h1, h2, h3⟩ := h.ext ((e.trans e2).trans e3)
    exact ⟨L, C, dx, _, .ref b, rfl, h1, c.cl, c.nb, rfl, (ev_din (σ := σ) (ty := tC (.str s)) (td := tC (.ref b)) ev_c ev_c h3) H3 (Ex.refl _) Q fun H4 e4 => q H4 ((e2.trans e3).trans e4)⟩
end
/-- the way out with an error that keeps d -/
def Raises (K : PySem.W.Frag) (D : Addr) (H : Hp) (d : PyData) (E : XK) : Prop := ∀ dd v' H', Ex H H' → H' dd = some (.xd [("value", v')]) → Dd K H' v' d → E (.ref D) (some dd) H'
def sp0 (K : PySem.W.Frag) (C : Addr) (F : List Str → (Str → List Str) → PyData) : Sp := fun vs H Q _ => ∃ (L : Addr) (ns : List Str) (bl : Str → List Str), vs = [.ref L] ∧ LvAt C H L ns bl ∧ LvOk ns bl ∧ ∀ u H', Ex H H' → Dd K H' u (F ns bl) → Q u H'
def spHas (K : PySem.W.Frag) (C : Addr) : Sp := fun vs H Q _ => ∃ (L : Addr) (v : V) (d : PyData) (ns : List Str) (bl : Str → List Str), vs = [.ref L, v] ∧ LvAt C H L ns bl ∧ LvOk ns bl ∧ Dd K H v d ∧ ∀ H', Ex H H' → Q (.bl (hasD ns d)) H'
def sp1 (K : PySem.W.Frag) (C D : Addr) (F : List Str → (Str → List Str) → Str → PyData) : Sp := fun vs H Q E => ∃ (L : Addr) (v : V) (d : PyData) (ns : List Str) (bl : Str → List Str), vs = [.ref L, v] ∧ LvAt C H L ns bl ∧ LvOk ns bl ∧ Dd K H v d ∧
  (hasD ns d = true → ∀ u H', Ex H H' → Dd K H' u (F ns bl (strD d)) → Q u H') ∧ (hasD ns d = false → Raises K D H d E)
def sp2 (K : PySem.W.Frag) (C D : Addr) (F : List Str → (Str → List Str) → Str → Str → PyData) : Sp := fun vs H Q E => ∃ (L : Addr) (v1 v2 : V) (d1 d2 : PyData) (ns : List Str) (bl : Str → List Str), vs = [.ref L, v1, v2] ∧ LvAt C H L ns bl ∧ LvOk ns bl ∧ Dd K H v1 d1 ∧ Dd K H v2 d2 ∧
  (hasD ns d1 = true → hasD ns d2 = true → ∀ u H', Ex H H' → Dd K H' u (F ns bl (strD d1) (strD d2)) → Q u H') ∧ (hasD ns d1 = false → Raises K D H d1 E) ∧ (hasD ns d1 = true → hasD ns d2 = false → Raises K D H d2 E)
end K54
set_option maxHeartbeats 8000000
namespace K54
open PySem PySem.Spec PyProof.Rows L2 Evl My LamX
abbrev sCls : Stmt := top 15
def clsBody : List Stmt := match top 15 with
  | .ClassDef _ _ _ body .. => body
  | _ => []
def mth (i : Nat) : Stmt := clsBody.getD i (.Pass ⟨0, 0, 0, 0⟩)
abbrev mInit : Stmt := mth 0
abbrev mLeast : Stmt := mth 1
abbrev mNames : Stmt := mth 2
abbrev mLen : Stmt := mth 3
abbrev mEq : Stmt := mth 4
abbrev mHas : Stmt := mth 5
abbrev mCheck : Stmt := mth 6
abbrev mLeq : Stmt := mth 7
abbrev mAbove : Stmt := mth 8
abbrev mDowns : Stmt := mth 9
abbrev mUps : Stmt := mth 10
abbrev mMeet : Stmt := mth 11
abbrev mJoin : Stmt := mth 12
section
variable {K : PySem.W.Frag} {C L D : Addr} {σ : L2.St} {H : Hp} {ns : List Str} {bl : Str → List Str} {te ta tl : TE} {d : PyData} {ds : List PyData} {Q : VK} {E : XK} {v : V} {i j : Nat} {De : Ends} {tz : TS}
/-- list(e) of a list -/
theorem ed_listL (h : EvD K te σ H (.list ds)) : EvD K (tCB (fun xs H Q => ∃ p ys, xs = [.ref p] ∧ (SqL K H p ys ∨ SqT K H p ys) ∧ ∀ l, H l = none → Q (.ref l) (upd H l (.lst ys))) (tCons te tNil)) σ H (.list ds) := fun H1 e Q q =>
  h H1 e _ fun v H2 e2 g => by
    cases g with
    | @lst a xs _ hx ha => exact ⟨a, xs, rfl, .inl hx, fun l hl => q (.ref l) _ (e2.trans (Ex.new hl)) (.lst (sq_of upd_same) (Dds.ext (Ex.new hl) _ _ ha))⟩
end
section
variable {P : Program} {w : World} {K : PySem.W.Frag} {mg : Str → Option Value} {base : Heap} {f C D : Addr} {fd : FuncData}
theorem scHas : FnScope ["self", "thing"] ["self", "thing"] (defScope mHas) := ⟨rfl, rfl, rfl, by decide +kernel, rfl, by decide +kernel, by decide +kernel⟩
theorem ok_has (F : Fun K "has" "Levels.has" mHas f fd) (T : Txt mg) (c : LvC K C) : FnOk P w K mg base CX0 1 f fd ["self", "thing"] (spHas K C) := by
  refine F.ok scHas (fun vs H Q E h => ?_) (fun cdv A outer s H vs Q E hr h => ?_)
  · obtain ⟨L, v, d, ns, bl, rfl, _⟩ := h
    rfl
  · obtain ⟨L, v, d, ns, bl, rfl, lv, ok, g, kQ⟩ := h
    have hu := hu_of hr
    refine ⟨_, pss_one (ps_ret (pe_and (pe_callB call_isi (by rfl) T.isn (by decide +kernel) (pa_cons (pv 1) (pa_cons (pe_bltn (v := .ty "str") (by rfl) T.str (by decide +kernel) rfl) pa_nil))) (pe_one (pe_cmp (pc_din hu (pv 1) (pe_fld (pv 0) rfl)) rfl)))), ?_⟩
    refine s_ret (v := .bl (hasD ns d)) (ev_andV (a := isStr d) (b := decide (strD d ∈ ns)) (ed_isi (ed_var rfl g) (isStr_kit d)) fun hs => ?_) fun H1 e1 => kQ H1 e1
    obtain ⟨s, rfl⟩ := isStr_is hs
    cases g
    exact ev_inBelow c lv (ev_var rfl) (ev_var rfl)
theorem scCheck : FnScope ["self", "level"] ["self", "level"] (defScope mCheck) := ⟨rfl, rfl, rfl, by decide +kernel, rfl, by decide +kernel, by decide +kernel⟩
theorem ok_check (F : Fun K "check" "Levels.check" mCheck f fd) (c : LvC K C) (V : InvE P w K mg base "InvalidLevel" D) (hH : MD P w K mg base C "has" ["self", "thing"] 1 (spHas K C)) : FnOk P w K mg base (L2.CX P w) 3 f fd ["self", "level"] (sp1 K C D fun _ _ _ => .none) := by
  refine F.okX scCheck (fun vs H Q E h => ?_) (fun cdv A outer s H vs Q E hr h => ?_)
  · obtain ⟨L, v, d, ns, bl, rfl, _⟩ := h
    rfl
  · obtain ⟨L, v, d, ns, bl, rfl, lv, ok, g, kQ, kE⟩ := h
    have hr1 : Room 1 _ := hr.mono (by decide)
    refine ⟨_, pss_one (ps_if (pt_not (pt_val (pe_md hH c.cl hr1 (pv 0) (pa_cons (pv 1) pa_nil)))) (pss_one (ps_raise rfl (takes_of rfl rfl rfl rfl) (pmk_invE V hr rfl (pv 1)))) pss_nil), ?_⟩
    have has : EvT (tNot (tB (tMeth C "has" (spHas K C) [] E0 (tVar 0) (tCons (tVar 1) tNil)))) (start ["self", "level"] [.ref L, v]) H (!hasD ns d) := et_not (et_B fun H1 e Q q => by
      obtain ⟨dx, o, b, h1, _⟩ := lv.ext e
      exact ⟨_, rfl, L, dx, _, rfl, h1, rfl, _, rfl, L, v, d, ns, bl, rfl, lv.ext e, ok, Dd.ext e _ _ g, fun H2 e2 => q H2 e2⟩)
    refine s_when has (fun hb H1 e1 => ?_) (fun hb H1 e1 => ?_)
    · have hf : hasD ns d = false := by
        cases h : hasD ns d
        · rfl
        · rw [h] at hb
          cases hb
      exact mkO1 (ev_var rfl) fun dd H2 e2 hdd => kE hf dd _ H2 (e1.trans e2) hdd (Dd.ext (e1.trans e2) _ _ g)
    · exact kQ (notF hb) .non H1 e1 .non
theorem scNam : FnScope ["self"] ["self"] (defScope mNames) := ⟨rfl, rfl, rfl, by decide +kernel, rfl, by decide +kernel, by decide +kernel⟩
theorem ok_nam (F : Fun K "names" "Levels.names" mNames f fd) (T : Txt mg) (c : LvC K C) : FnOk P w K mg base CX0 1 f fd ["self"] (sp0 K C fun ns _ => .list (txts ns)) := by
  refine F.ok scNam (fun vs H Q E h => ?_) (fun cdv A outer s H vs Q E hr h => ?_)
  · obtain ⟨L, ns, bl, rfl, _⟩ := h
    rfl
  · obtain ⟨L, ns, bl, rfl, lv, ok, kQ⟩ := h
    refine ⟨_, pss_one (ps_ret (pe_callTy call_list_of (by rfl) T.lst (by decide +kernel) (pa_cons (pe_fld (pv 0) rfl) pa_nil))), ?_⟩
    exact s_retD (ed_listL (ed_order c lv (ev_var rfl))) fun u H1 e1 gu => kQ u H1 e1 gu
theorem scLen : FnScope ["self"] ["self"] (defScope mLen) := ⟨rfl, rfl, rfl, by decide +kernel, rfl, by decide +kernel, by decide +kernel⟩
theorem ok_len (F : Fun K "__len__" "Levels.__len__" mLen f fd) (T : Txt mg) (c : LvC K C) : FnOk P w K mg base CX0 1 f fd ["self"] (sp0 K C fun ns _ => .int (ns.length : Nat)) := by
  refine F.ok scLen (fun vs H Q E h => ?_) (fun cdv A outer s H vs Q E hr h => ?_)
  · obtain ⟨L, ns, bl, rfl, _⟩ := h
    rfl
  · obtain ⟨L, ns, bl, rfl, lv, ok, kQ⟩ := h
    refine ⟨_, pss_one (ps_ret (pe_callB call_len (by rfl) T.len (by decide +kernel) (pa_cons (pe_fld (pv 0) rfl) pa_nil))), ?_⟩
    refine s_retD (ed_int (ev_is (ed_lenQ (ed_order c lv (ev_var rfl)) rfl) (by rw [show seqOf (.list (txts ns)) = txts ns from rfl, List.length_map]))) fun u H1 e1 gu => kQ u H1 e1 gu
end
end K54
set_option maxHeartbeats 8000000
namespace K54
open PySem PySem.Spec PyProof.Rows L2 Evl My LamX
theorem ownPass {P : Program} {w : World} {K : PySem.W.Frag} {mg : Str → Option Value} {base : Heap} {N : List Str} {qual : Str} {sc : Scope} {f : Addr} {cdv : Value} {A : Around} {outer : List Env} {s : Shared} {H : Hp} {E : XK} :
    Passes (L2.CX (cxOf (L2.CX P w) P w K mg base N qual sc f cdv A outer s H E).prog (cxOf (L2.CX P w) P w K mg base N qual sc f cdv A outer s H E).w) (cxOf (L2.CX P w) P w K mg base N qual sc f cdv A outer s H E) E :=
  L2.passes_call (L2.takes_of rfl rfl rfl rfl) fun _ _ _ _ h => h
def firstOf (f : Str → Bool) (ws : List Str) : PyData := match ws.find? f with
  | some s => .str s
  | none => .none
theorem firstOf_at {f : Str → Bool} : ∀ {ws : List Str} {i : Nat} {x : Str}, ws[i]? = some x → f x = true → (∀ y ∈ ws.take i, f y = false) → firstOf f ws = .str x
  | [], i, x, h, _, _ => by simp at h
  | w :: ws, 0, x, h, hf, _ => by
    cases h
    unfold firstOf
    rw [List.find?_cons, hf]
  | w :: ws, i + 1, x, h, hf, no => by
    have ih := firstOf_at (ws := ws) (i := i) (x := x) h hf fun y m => no y (by rw [List.take_succ_cons]; exact List.mem_cons_of_mem _ m)
    unfold firstOf at ih ⊢
    rw [List.find?_cons, no w (by rw [List.take_succ_cons]; exact List.mem_cons_self ..)]
    exact ih
theorem firstOf_no {f : Str → Bool} {ws : List Str} (no : ∀ y ∈ ws, f y = false) : firstOf f ws = .none := by
  unfold firstOf
  rw [List.find?_eq_none.mpr fun y m => by rw [no y m]; exact Bool.false_ne_true]
def bothOf (ns : List Str) (bl : Str → List Str) (a b : Str) : List Str := ns.filter fun w => decide (w ∈ bl a) && decide (w ∈ bl b)
def moreOf (ns : List Str) (bl : Str → List Str) (a b : Str) : List Str := ns.filter fun w => decide (a ∈ bl w) && decide (b ∈ bl w)
def meetF (ns : List Str) (bl : Str → List Str) (a b : Str) : PyData := firstOf (fun l => (bothOf ns bl a b).all fun w => decide (w ∈ bl l)) (bothOf ns bl a b)
def joinF (ns : List Str) (bl : Str → List Str) (a b : Str) : PyData := firstOf (fun l => (moreOf ns bl a b).all fun w => decide (l ∈ bl w)) (moreOf ns bl a b)
theorem hasD_is {ns : List Str} {d : PyData} (h : hasD ns d = true) : d = .str (strD d) ∧ strD d ∈ ns := by
  unfold hasD at h
  rw [Bool.and_eq_true, decide_eq_true_eq] at h
  obtain ⟨s, rfl⟩ := isStr_is h.1
  exact ⟨rfl, h.2⟩
section
variable {K : PySem.W.Frag} {C L D o : Addr} {σ : L2.St} {H : Hp} {ns ws : List Str} {bl : Str → List Str} {te ta tl : TE} {d : PyData} {v : V} {i j : Nat} {De : Ends} {tz : TS} {E : XK} {F : List Str → (Str → List Str) → Str → PyData}
/-- self.check(x) -/
theorem q_check (h0 : σ[i]? = some (some (.ref L))) (hj : σ[j]? = some (some v)) (lv : LvAt C H L ns bl) (ok : LvOk ns bl) (g : Dd K H v d) (yes : hasD ns d = true → ∀ H1, Ex H H1 → tz De σ H1) (no : hasD ns d = false → Raises K D H d E) :
    tSeq (tDrop (tMeth C "check" (sp1 K C D fun _ _ _ => .none) [] E (tVar i) (tCons (tVar j) tNil))) tz De σ H := by
  obtain ⟨dx, o, b, h1, h2, h3⟩ := id lv
  exact ⟨_, h0, L, dx, _, rfl, h1, rfl, _, hj, L, v, d, ns, bl, rfl, lv, ok, g, fun hs u H1 e1 _ => yes hs H1 e1, no⟩
theorem ev_orderR (c : LvC K C) (lv : LvAt C H L ns bl) (ha : Ev ta σ H (.ref L)) : ∃ o, SqL K H o (ns.map V.str) ∧ Ev (tFld K ta "order") σ H (.ref o) := by
  obtain ⟨dx, o, b, h1, h2, h3⟩ := lv
  exact ⟨o, sq_of h2, fun H1 e Q q => ha H1 e _ fun H2 e2 => ⟨L, C, dx, _, .ref o, rfl, (e.trans e2) _ _ h1, c.cl, c.no, rfl, q H2 e2⟩⟩
end
section
variable {P : Program} {w : World} {K : PySem.W.Frag} {mg : Str → Option Value} {base : Heap} {f C D : Addr} {fd : FuncData}
theorem scAbove : FnScope ["self", "one", "other"] ["self", "one", "other"] (defScope mAbove) := ⟨rfl, rfl, rfl, by decide +kernel, rfl, by decide +kernel, by decide +kernel⟩
theorem ok_above (F : Fun K "above" "Levels.above" mAbove f fd) (c : LvC K C) (hC : MX P w K mg base C "check" ["self", "level"] 3 (sp1 K C D fun _ _ _ => .none)) : FnOk P w K mg base (L2.CX P w) 4 f fd ["self", "one", "other"] (sp2 K C D fun _ bl a b => .bool (!decide (a = b) && decide (b ∈ bl a))) := by
  refine F.okX scAbove (fun vs H Q E h => ?_) (fun cdv A outer s H vs Q E hr h => ?_)
  · obtain ⟨L, v1, v2, d1, d2, ns, bl, rfl, _⟩ := h
    rfl
  · obtain ⟨L, v1, v2, d1, d2, ns, bl, rfl, lv, ok, g1, g2, kQ, kE1, kE2⟩ := h
    have hu := hu_of hr
    refine ⟨_, pss_cons (ps_expr (pe_mx hC c.cl hr ownPass (pv 0) (pa_cons (pv 1) pa_nil))) (pss_cons (ps_expr (pe_mx hC c.cl hr ownPass (pv 0) (pa_cons (pv 2) pa_nil))) (pss_one (ps_ret (pe_and (pe_cmpR op_ne (pv 1) (pv 2) (nomark _)) (pe_one (pe_cmpR op_in_seq (pv 2) (pe_dget hu (pe_fld (pv 0) rfl) (pv 1) (fun _ _ => rfl)) rfl)))))), ?_⟩
    refine q_check rfl rfl lv ok g1 (fun hs1 H1 e1 => ?_) kE1
    refine q_check rfl rfl (lv.ext e1) ok (Dd.ext e1 _ _ g2) (fun hs2 H2 e2 => ?_) (fun no dd v' H' e' hx gx => kE2 hs1 no dd v' H' (e1.trans e') hx gx)
    obtain ⟨q1, hm1⟩ := hasD_is hs1
    obtain ⟨q2, hm2⟩ := hasD_is hs2
    have e12 := e1.trans e2
    rw [q1] at g1
    rw [q2] at g2
    cases g1
    cases g2
    refine s_retD (K := K) (ed_bl (ev_andV (a := !decide (strD d1 = strD d2)) (b := decide (strD d2 ∈ bl (strD d1))) (ev_is (ev_op (ev_var rfl) (ev_var rfl) (rv_ne rfl)) ?_) fun _ => ev_inL (ev_var rfl) (ed_below c (lv.ext e12) (ev_var rfl) hm1 (ev_var rfl)))) fun u H3 e3 gu => kQ hs1 hs2 u H3 (e12.trans e3) gu
    congr 2
    exact decide_eq_decide.mpr ⟨fun z => V.str.inj z, fun z => by rw [z]⟩
end
end K54
set_option maxHeartbeats 8000000
namespace K54
open PySem PySem.Spec PyProof.Rows L2 Evl My LamX
/-- what isinstance asks of the class -/
structure LvI (K : PySem.W.Frag) (C : Addr) : Prop where
  ha : PySem.W.findIn K (.ref C) "__class__" = some (some (.builtin "object.__class__"))
  hn : PySem.W.specialIn K (.builtin "object.__class__") "__get__" = some (some (.builtin "getset_descriptor.__get__"))
  htk : PySem.W.takesIn K (.builtin "object.__class__") = some true
  hm : PySem.W.mroIn K C (.type "object") = some true
  kC : PySem.W.kitOne K (.ref C) (.ref C) = some true
  kT : ∀ d : PyData, PySem.W.kitOne K (.type (tyD d)) (.ref C) = some false
  nT : ∀ d : PyData, PySem.W.notFirst K C (.type (tyD d)) = true
def sameL (ns : List Str) (bl : Str → List Str) (ns2 : List Str) (bl2 : Str → List Str) : Bool := decide (ns = ns2) && ns.all fun s => decide (bl s = bl2 s)
def spEqL (K : PySem.W.Frag) (C : Addr) : Sp := fun vs H Q _ => ∃ (L : Addr) (y : V) (ns : List Str) (bl : Str → List Str), vs = [.ref L, y] ∧ LvAt C H L ns bl ∧ LvOk ns bl ∧
  ((∃ (L2 : Addr) (ns2 : List Str) (bl2 : Str → List Str), y = .ref L2 ∧ LvAt C H L2 ns2 bl2 ∧ LvOk ns2 bl2 ∧ ∀ H', Ex H H' → Q (.bl (sameL ns bl ns2 bl2)) H') ∨ (∃ d, Dd K H y d ∧ ∀ H', Ex H H' → Q (.bl false) H'))
theorem noDict_txts : ∀ ws : List Str, noDicts (txts ws) = true
  | [] => rfl
  | w :: ws => by
    show (noDict (.str w) && noDicts (txts ws)) = true
    rw [noDict_txts ws]
    rfl
theorem lay_txts : ∀ {ws : List Str}, (∀ s ∈ ws, wordD (.str s) = true) → PyData.canLayAll0 (txts ws) = true
  | [], _ => rfl
  | w :: ws, h => by
    show (PyData.strOk w && PyData.canLayAll0 (txts ws)) = true
    rw [lay_txts fun s m => h s (List.mem_cons_of_mem _ m), low_ok (low_of (h w (List.mem_cons_self ..)))]
    rfl
theorem dep_txts : ∀ ws : List Str, PyData.depthAll (txts ws) = 0
  | [] => rfl
  | w :: ws => by
    show max (PyData.depth (.str w)) (PyData.depthAll (txts ws)) = 0
    rw [dep_txts ws]
    rfl
theorem layL {ws : List Str} (h : ∀ s ∈ ws, wordD (.str s) = true) : (PyData.list (txts ws)).canLay0 = true ∧ (PyData.list (txts ws)).depth ≤ 1 := ⟨lay_txts h, by
  show PyData.depthAll (txts ws) + 1 ≤ 1
  rw [dep_txts]
  exact Nat.le_refl 1⟩
theorem shapedL {ws : List Str} (h : ∀ s ∈ ws, wordD (.str s) = true) : SeqAt.shaped (.list (txts ws)) = true := by
  obtain ⟨h1, h2⟩ := layL h
  unfold SeqAt.shaped
  rw [h1, decide_eq_true (Nat.le_trans h2 (by decide))]
  rfl
section
variable {K : PySem.W.Frag} {C L : Addr} {σ : L2.St} {H : Hp} {ns ns2 ws vs : List Str} {bl bl2 : Str → List Str} {te ta tb : TE} {d e : PyData} {ds : List PyData}
theorem ed_eqD (ha : EvD K ta σ H d) (hb : EvD K tb σ H e) (n1 : noDict d = true) (n2 : noDict e = true) (s1 : SeqAt.shaped d = true) (s2 : SeqAt.shaped e = true) : Ev (tOp (rEqD K) ta tb) σ H (.bl (PyData.eqv d e)) := fun H1 x Q q =>
  ha H1 x _ fun v H2 e2 g => hb H2 (x.trans e2) _ fun u H3 e3 g2 => ⟨d, e, dp_ofL _ _ n1 (Dd.ext e3 _ _ g), dp_ofL _ _ n2 g2, s1, s2, q H3 (e2.trans e3)⟩
theorem ed_neD (ha : EvD K ta σ H d) (hb : EvD K tb σ H e) (n1 : noDict d = true) (n2 : noDict e = true) (s1 : SeqAt.shaped d = true) (s2 : SeqAt.shaped e = true) : Ev (tOp (rNeD K) ta tb) σ H (.bl (!PyData.eqv d e)) := fun H1 x Q q =>
  ha H1 x _ fun v H2 e2 g => hb H2 (x.trans e2) _ fun u H3 e3 g2 => ⟨d, e, dp_ofL _ _ n1 (Dd.ext e3 _ _ g), dp_ofL _ _ n2 g2, s1, s2, q H3 (e2.trans e3)⟩
/-- two dicts with the same keys -/
theorem kv_mem2 {ka : List (Key × V)} {ks : List Str} (h : KvL H ka ks bl) {p : Key × V} (m : p ∈ ka) : ∃ s ∈ ks, p.1 = .inr s ∧ LsAt H p.2 (bl s) := by
  unfold KvL at h
  induction h with
  | nil => cases m
  | @cons q t _ _ z _ ih =>
    rcases List.mem_cons.mp m with rfl | m
    · exact ⟨t, List.mem_cons_self .., z⟩
    · obtain ⟨s, h1, h2⟩ := ih m
      exact ⟨s, List.mem_cons_of_mem _ h1, h2⟩
theorem kv_all {ka : List (Key × V)} {ks : List Str} (h : KvL H ka ks bl) (f : Key → Bool) : (ka.all fun p => f p.1) = ks.all fun s => f (.inr s) := by
  unfold KvL at h
  induction h with
  | nil => rfl
  | cons z _ ih => rw [List.all_cons, List.all_cons, ih, z.1]
def eKey (bl bl2 : Str → List Str) : Key → Bool
  | .inr s => decide (bl s = bl2 s)
  | .inl _ => true
theorem ev_eqDc {a b : Addr} (N : ∀ s ∈ ns, (∀ w ∈ bl s, wordD (.str w) = true) ∧ ∀ w ∈ bl2 s, wordD (.str w) = true) (ha : Ev ta σ H (.ref a)) (h1 : DcAt H a ns bl) (hb : Ev tb σ H (.ref b)) (h2 : DcAt H b ns bl2) :
    Ev (tOp (rEqDK K) ta tb) σ H (.bl (ns.all fun s => decide (bl s = bl2 s))) := fun H1 x Q q => ha H1 x _ fun H2 e2 => hb H2 (x.trans e2) _ fun H3 e3 => by
  obtain ⟨ka, a1, a2⟩ := h1.ext ((x.trans e2).trans e3)
  obtain ⟨kb, b1, b2⟩ := h2.ext ((x.trans e2).trans e3)
  refine ⟨a, b, ka, kb, eKey bl bl2, rfl, rfl, a1, b1, fun p m v' hv => ?_, ?_⟩
  · obtain ⟨s, hs, e1, l1⟩ := kv_mem2 a2 m
    rw [e1] at hv
    obtain ⟨v2, hv2, l2⟩ := b2.some hs
    rw [hv] at hv2
    cases hv2
    obtain ⟨n1, n2⟩ := N s hs
    refine ⟨.list (txts (bl s)), .list (txts (bl2 s)), dp_ofL (.list (txts (bl s))) _ (noDict_txts (bl s)) l1.dd, dp_ofL (.list (txts (bl2 s))) _ (noDict_txts (bl2 s)) l2.dd, (layL n1).1, (layL n2).1, Nat.le_trans (layL n1).2 (by decide), ?_⟩
    rw [e1, eqv_txts]
    rfl
  · have z : (ka.length == kb.length && ka.all fun p => (valV kb p.1).isSome && eKey bl bl2 p.1) = ns.all fun s => decide (bl s = bl2 s) := by
      rw [a2.len, b2.len, beq_self_eq_true, Bool.true_and, kv_all a2 fun k => (valV kb k).isSome && eKey bl bl2 k]
      rw [Bool.eq_iff_iff, List.all_eq_true, List.all_eq_true]
      refine forall_congr' fun s => imp_congr_right fun hs => ?_
      obtain ⟨v, hv, _⟩ := b2.some hs
      rw [hv]
      rfl
    rw [z]
    exact q H3 (e2.trans e3)
theorem ev_belowR (c : LvC K C) (lv : LvAt C H L ns bl) (ha : Ev ta σ H (.ref L)) : ∃ b, DcAt H b ns bl ∧ Ev (tFld K ta "below") σ H (.ref b) := by
  obtain ⟨dx, o, b, h1, h2, h3⟩ := lv
  exact ⟨b, h3, fun H1 e Q q => ha H1 e _ fun H2 e2 => ⟨L, C, dx, _, .ref b, rfl, (e.trans e2) _ _ h1, c.cl, c.nb, rfl, q H2 e2⟩⟩
/-- isinstance(x, Levels) -/
theorem ev_isLv (c : LvC K C) (I : LvI K C) (lv : LvAt C H L ns bl) (ha : Ev ta σ H (.ref L)) : Ev (tCB (rIsi K) (tCons ta (tCons (tC (.ref C)) tNil))) σ H (.bl true) := fun H1 e Q q => ha H1 e _ fun H2 e2 => by
  obtain ⟨dx, o, b, h1, h2, h3⟩ := lv.ext (e.trans e2)
  exact ⟨.ref L, .ref C, .ref C, .ref C, true, rfl, .own C, .base (.ins h1 c.cl I.ha I.hn I.htk I.hm), I.kC, q H2 e2⟩
theorem ev_noLv (I : LvI K C) (h : EvD K ta σ H d) : Ev (tCB (rIsi K) (tCons ta (tCons (tC (.ref C)) tNil))) σ H (.bl false) := fun H1 e Q q => h H1 e _ fun v H2 e2 g =>
  ⟨v, .ref C, .type (tyD d), .ref C, false, rfl, .own C, g.ty, I.kT d, q H2 e2⟩
end
section
variable {P : Program} {w : World} {K : PySem.W.Frag} {mg : Str → Option Value} {base : Heap} {f C D : Addr} {fd : FuncData}
theorem scEq : FnScope ["self", "other"] ["self", "other"] (defScope mEq) := ⟨rfl, rfl, rfl, by decide +kernel, rfl, by decide +kernel, by decide +kernel⟩
theorem ok_eq (F : Fun K "__eq__" "Levels.__eq__" mEq f fd) (T : Txt mg) (c : LvC K C) (I : LvI K C) (gC : mg "Levels" = some (.ref C)) : FnOk P w K mg base CX0 1 f fd ["self", "other"] (spEqL K C) := by
  refine F.ok scEq (fun vs H Q E h => ?_) (fun cdv A outer s H vs Q E hr h => ?_)
  · obtain ⟨L, y, ns, bl, rfl, _⟩ := h
    rfl
  · obtain ⟨L, y, ns, bl, rfl, lv, ok, alt⟩ := h
    refine ⟨_, pss_one (ps_ret (pe_and (pe_callB call_isi (by rfl) T.isn (by decide +kernel) (pa_cons (pv 1) (pa_cons (pe_glob (v := .ref C) rfl gC rfl) pa_nil)))
      (pe_and (pe_cmpR (op_eqD hr.units) (pe_fld (pv 0) rfl) (pe_fld (pv 1) rfl) (nomark _)) (pe_one (pe_cmpR (op_eqDK hr.units) (pe_fld (pv 0) rfl) (pe_fld (pv 1) rfl) (nomark _)))))), ?_⟩
    rcases alt with ⟨L2, ns2, bl2, rfl, lv2, ok2, kQ⟩ | ⟨d, g, kQ⟩
    · obtain ⟨b1, d1, r1⟩ := ev_belowR (σ := start ["self", "other"] [.ref L, .ref L2]) (ta := tVar 0) c lv (ev_var rfl)
      obtain ⟨b2, d2, r2⟩ := ev_belowR (σ := start ["self", "other"] [.ref L, .ref L2]) (ta := tVar 1) c lv2 (ev_var rfl)
      refine s_ret (v := .bl (sameL ns bl ns2 bl2)) (ev_andV (a := true) (b := sameL ns bl ns2 bl2) (ev_isLv c I lv2 (ev_var rfl)) fun _ => ev_andV (a := decide (ns = ns2)) (b := ns.all fun s => decide (bl s = bl2 s)) (ev_is (ed_eqD (ed_order c lv (ev_var rfl)) (ed_order c lv2 (ev_var rfl)) (noDict_txts _) (noDict_txts _) (shapedL ok.N.word) (shapedL ok2.N.word)) (by rw [eqv_txts])) fun hn => ?_) fun H1 e1 => kQ H1 e1
      have hn2 : ns = ns2 := of_decide_eq_true hn
      subst hn2
      exact ev_eqDc (fun s hs => ⟨fun w m => ok.N.word w (ok.sub s w m), fun w m => ok.N.word w (ok2.sub s w m)⟩) r1 d1 r2 d2
    · exact s_ret (v := .bl false) (ev_andV (a := false) (b := false) (ev_noLv I (ed_var rfl g)) fun z => by cases z) fun H1 e1 => kQ H1 e1
end
end K54
set_option maxHeartbeats 8000000
namespace K54
open PySem PySem.Spec PyProof.Rows L2 Evl My LamX
def pairOf (d : PyData) : Str × Str := (strD ((seqOf d).getD 0 .none), strD ((seqOf d).getD 1 .none))
theorem pair_is {ns : List Str} {d : PyData} (h : pairB ns d = true) : d = .tuple [.str (pairOf d).1, .str (pairOf d).2] ∧ (pairOf d).1 ∈ ns ∧ (pairOf d).2 ∈ ns ∧ ixOf (pairOf d).1 ns < ixOf (pairOf d).2 ns := by
  unfold pairB at h
  rw [Bool.and_eq_true, Bool.and_eq_true, Bool.and_eq_true] at h
  obtain ⟨⟨ht, h2⟩, ha, ho⟩ := h
  obtain ⟨ds, rfl⟩ := isTup_is ht
  have len2 : ds.length = 2 := of_decide_eq_true h2
  match ds, len2, ha, ho with
  | [a, b], _, ha, ho =>
    have ha2 : ([a, b].all (inD ns)) = true := ha
    rw [List.all_cons, List.all_cons, Bool.and_eq_true, Bool.and_eq_true] at ha2
    obtain ⟨h1, h2, _⟩ := ha2
    unfold inD at h1 h2
    rw [Bool.and_eq_true, decide_eq_true_eq] at h1 h2
    have e1 := word_is h1.1
    have e2 := word_is h2.1
    refine ⟨?_, h1.2, h2.2, of_decide_eq_true ho⟩
    show PyData.tuple [a, b] = .tuple [.str (strD a), .str (strD b)]
    rw [← e1, ← e2]
theorem prs_of {ns : List Str} : ∀ {ds : List PyData}, ds.all (pairB ns) = true → ds = prs (ds.map pairOf)
  | [], _ => rfl
  | d :: ds, h => by
    rw [List.all_cons, Bool.and_eq_true] at h
    have e := (pair_is h.1).1
    have ih := prs_of h.2
    rw [List.map_cons, prs, List.map_cons, ← e]
    congr 1
theorem pairs_ok {ns : List Str} {ds : List PyData} (h : ds.all (pairB ns) = true) (short : ds.length ≤ 10) : PairsOk ns (ds.map pairOf) := by
  refine ⟨by rw [List.length_map]; exact short, fun p hp => ?_⟩
  obtain ⟨d, hd, rfl⟩ := List.mem_map.mp hp
  obtain ⟨_, h1, h2, h3⟩ := pair_is (List.all_eq_true.mp h d hd)
  exact ⟨_, _, h3, (ixOf_at _ h1).1, (ixOf_at _ h2).1⟩
theorem names_ok {d : PyData} (h : namesD d = true) : isSeq d = true ∧ seqOf d = txts ((seqOf d).map strD) ∧ NamesOk ((seqOf d).map strD) := by
  unfold namesD len8 difD at h
  rw [Bool.and_eq_true, Bool.and_eq_true, Bool.and_eq_true, Bool.and_eq_true, decide_eq_true_eq, decide_eq_true_eq, decide_eq_true_eq] at h
  obtain ⟨⟨hs, h1, h8⟩, hw, nd⟩ := h
  refine ⟨hs, words_are hw, by rw [List.length_map]; exact h1, by rw [List.length_map]; exact h8, fun s m => ?_, nd⟩
  obtain ⟨x, hx, rfl⟩ := List.mem_map.mp m
  have w := List.all_eq_true.mp hw x hx
  rw [← word_is w]
  exact w
theorem belF_sub (ns : List Str) (ps : List (Str × Str)) : ∀ (pre : List Str) (s : Str), ∀ w ∈ belF ns ps pre s, w ∈ ns := fun pre => by
  unfold belF
  generalize hb : (fun _ : Str => ([] : List Str)) = b0
  have h0 : ∀ s, ∀ w ∈ b0 s, w ∈ ns := fun s w m => by
    rw [← hb] at m
    cases m
  clear hb
  induction pre generalizing b0 with
  | nil => exact h0
  | cons l r ih =>
    refine ih _ fun s w m => ?_
    have m2 : w ∈ (if s = l then rowOf ns ps b0 l else b0 s) := m
    split at m2
    · exact rowOf_sub _ _ _ _ w m2
    · exact h0 s w m2
theorem lv_ok {ns : List Str} {ps : List (Str × Str)} (N : NamesOk ns) : LvOk ns (belF ns ps ns) := ⟨N, fun s => Nat.le_trans (belF_len ns ps ns s) N.eight, belF_sub ns ps ns⟩
/-- Levels(names, pairs), at a new instance -/
def spInit (K : PySem.W.Frag) (C D : Addr) : Sp := fun vs H Q E => ∃ (L dx : Addr) (v1 v2 : V) (d1 d2 : PyData), vs = [.ref L, v1, v2] ∧ H L = some (.ins C dx []) ∧ Dd K H v1 d1 ∧ small d1 = true ∧ Dd K H v2 d2 ∧ small d2 = true ∧
  (namesD d1 = true → pairsB ((seqOf d1).map strD) d2 = true → (seqOf d2).length ≤ 10 ∧ ∀ H', But L H H' → LvAt C H' L ((seqOf d1).map strD) (belF ((seqOf d1).map strD) ((seqOf d2).map pairOf) ((seqOf d1).map strD)) → Q .non H') ∧
  (namesD d1 = false → Raises K D H d1 E) ∧ (namesD d1 = true → pairsB ((seqOf d1).map strD) d2 = false → Raises K D H d2 E)
section
variable {K : PySem.W.Frag} {C L D o : Addr} {σ : L2.St} {H : Hp} {te ta tl : TE} {d : PyData}
/-- list(e) of a list or tuple -/
theorem edl_listQ (h : EvD K te σ H d) (hs : isSeq d = true) : EvDL K (tCB (fun xs H Q => ∃ p ys, xs = [.ref p] ∧ (SqL K H p ys ∨ SqT K H p ys) ∧ ∀ l, H l = none → Q (.ref l) (upd H l (.lst ys))) (tCons te tNil)) σ H (seqOf d) := fun H1 e Q q =>
  h H1 e _ fun v H2 e2 g => by
    cases d with
    | list ds =>
      cases g with
      | @lst a xs _ hx ha => exact ⟨a, xs, rfl, .inl hx, fun l hl => q l _ _ (fresh_back e2 hl) (e2.trans (Ex.new hl)) upd_same (Dds.ext (Ex.new hl) _ _ ha)⟩
    | tuple ds =>
      cases g with
      | @tup a xs _ hx ha => exact ⟨a, xs, rfl, .inr hx, fun l hl => q l _ _ (fresh_back e2 hl) (e2.trans (Ex.new hl)) upd_same (Dds.ext (Ex.new hl) _ _ ha)⟩
    | _ => cases hs
end
/-! data stay where one instance changes -/
mutual
theorem dd_ins {K : PySem.W.Frag} {H H' : Hp} {L C dx : Addr} {fs : List (Str × V)} (hL : H L = some (.ins C dx fs)) (b : But L H H') : ∀ (d : PyData) (v : V), Dd K H v d → Dd K H' v d
  | .none, _, g => by
    cases g
    exact .non
  | .bool b, _, g => by
    cases g
    exact .bl b
  | .int i, _, g => by
    cases g
    exact .int i
  | .str x, _, g => by
    cases g
    exact .str x
  | .list ds, _, g => by
    cases g with
    | @lst a xs _ hs ha =>
      refine .lst ?_ (dds_ins hL b ds _ ha)
      have go : ∀ u, H a = some u → (∀ C dx fs, u ≠ .ins C dx fs) → H' a = some u := fun u h n => b a u (fun z => n C dx fs (Option.some.inj (by rw [← h, z]; exact hL))) h
      rcases hs with (hb | ⟨ob, hb⟩) | hb
      · exact .inl (.inl (go _ hb fun _ _ _ z => nomatch z))
      · exact .inl (.inr ⟨ob, go _ hb fun _ _ _ z => nomatch z⟩)
      · exact .inr hb
  | .tuple ds, _, g => by
    cases g with
    | @tup a xs _ hs ha =>
      refine .tup ?_ (dds_ins hL b ds _ ha)
      have go : ∀ u, H a = some u → (∀ C dx fs, u ≠ .ins C dx fs) → H' a = some u := fun u h n => b a u (fun z => n C dx fs (Option.some.inj (by rw [← h, z]; exact hL))) h
      rcases hs with (hb | ⟨ob, hb⟩) | hb
      · exact .inl (.inl (go _ hb fun _ _ _ z => nomatch z))
      · exact .inl (.inr ⟨ob, go _ hb fun _ _ _ z => nomatch z⟩)
      · exact .inr hb
  | .dict kvs, _, g => by
    cases g with
    | @dct a hb => exact .dct (b a _ (fun z => by rw [z, hL] at hb; cases hb) hb)
theorem dds_ins {K : PySem.W.Frag} {H H' : Hp} {L C dx : Addr} {fs : List (Str × V)} (hL : H L = some (.ins C dx fs)) (b : But L H H') : ∀ (ds : List PyData) (vs : List V), Dds K H vs ds → Dds K H' vs ds
  | [], _, g => by
    cases g
    exact .nil
  | d :: ds, _, g => by
    cases g with
    | cons g1 g2 => exact .cons (dd_ins hL b d _ g1) (dds_ins hL b ds _ g2)
end
section
variable {P : Program} {w : World} {K : PySem.W.Frag} {mg : Str → Option Value} {base : Heap} {f C D : Addr} {fd : FuncData}
theorem scInit : FnScope ["self", "names", "pairs", "order"] ["self", "names", "pairs"] (defScope mInit) := ⟨rfl, rfl, rfl, by decide +kernel, rfl, by decide +kernel, by decide +kernel⟩
theorem ok_init {dvs : List V} (F : FunD K "__init__" "Levels.__init__" (defArgs mInit) (defBody mInit) (defScope mInit) dvs [] f fd) (T : Txt mg) (c : LvC K C) (V : InvE P w K mg base "InvalidLevels" D) (NM : Df P w K mg base "are_names" ["thing"] 2 (spB K namesD)) (PR : Df P w K mg base "are_pairs" ["thing", "order"] 3 (spPairs K)) (LB : Df P w K mg base "levels_below" ["order", "pairs"] 1 (spBelow K)) :
    FnOk P w K mg base (L2.CX P w) 4 f fd ["self", "names", "pairs"] (spInit K C D) := by
  refine F.ok (CX := L2.CX P w) scInit (fun vs H Q E h => ?_) (fun cdv A outer s H vs Q E hr h => ?_)
  · obtain ⟨L, dx, v1, v2, d1, d2, rfl, _⟩ := h
    rfl
  · obtain ⟨L, dx, v1, v2, d1, d2, rfl, hL, g1, s1, g2, s2, kQ, kE1, kE2⟩ := h
    have hr1 : Room 1 _ := hr.mono (by decide)
    have hr2 : Room 2 _ := hr.mono (by decide)
    refine ⟨_, pss_cons (ps_if (pt_not (pt_val (pe_df NM hr2 rfl (pa_cons (pv 1) pa_nil)))) (pss_one (ps_raise rfl (takes_of rfl rfl rfl rfl) (pmk_invE V hr2 rfl (pv 1)))) pss_nil)
      (pss_cons (ps_set (i := 3) scInit.nd rfl (Or.inl rfl) (pe_callTy call_list_of (by rfl) T.lst (by decide +kernel) (pa_cons (pv 1) pa_nil)))
      (pss_cons (ps_if (pt_not (pt_val (pe_df PR hr rfl (pa_cons (pv 2) (pa_cons (pv 3) pa_nil))))) (pss_one (ps_raise rfl (takes_of rfl rfl rfl rfl) (pmk_invE V hr2 rfl (pv 2)))) pss_nil)
      (pss_cons (ps_fld (pv 0) (pv 3) rfl) (pss_one (ps_fld (pv 0) (pe_df LB hr1 rfl (pa_cons (pv 3) (pa_cons (pv 2) pa_nil))) rfl))))), ?_⟩
    refine q_when (b := !namesD d1) (et_not (et_B (ev_spB (F := namesD) (ed_var rfl g1) s1))) (fun hb H1 e1 => ?_) (fun hb H1 e1 => ?_)
    · have hf : namesD d1 = false := by
        cases h : namesD d1
        · rfl
        · rw [h] at hb
          cases hb
      exact mkO1 (ev_var rfl) fun dd H2 e2 hdd => kE1 hf dd _ H2 (e1.trans e2) hdd (Dd.ext (e1.trans e2) _ _ g1)
    · have hn := notF hb
      obtain ⟨hs1, hw, N⟩ := names_ok hn
      refine q_asgDL (K := K) (edl_listQ (ed_var rfl (Dd.ext e1 _ _ g1)) hs1) fun o xs H2 no e2 ho go => ?_
      rw [hw] at go
      rw [Dds.txts go] at ho
      generalize hns : (seqOf d1).map strD = ns at hw N ho kQ kE2
      have e12 := e1.trans e2
      have pb : Ev (tCall (spPairs K) [] E0 (tCons (tVar 2) (tCons (tVar 3) tNil))) ([some (.ref L), some v1, some v2, some (.ref o)] : L2.St) H2 (.bl (pairsB ns d2)) := fun H3 e3 Q3 q3 =>
        ⟨_, rfl, _, rfl, v2, o, d2, ns, rfl, Dd.ext (e12.trans e3) _ _ g2, s2, sq_of (e3 _ _ ho), fun H4 e4 => q3 H4 e4⟩
      refine q_when (b := !pairsB ns d2) (et_not (et_B pb)) (fun hb2 H3 e3 => ?_) (fun hb2 H3 e3 => ?_)
      · have hf : pairsB ns d2 = false := by
          cases h : pairsB ns d2
          · rfl
          · rw [h] at hb2
            cases hb2
        exact mkO1 (ev_var rfl) fun dd H4 e4 hdd => kE2 hn hf dd _ H4 ((e12.trans e3).trans e4) hdd (Dd.ext ((e12.trans e3).trans e4) _ _ g2)
      · have hp := notF hb2
        have e13 := e12.trans e3
        obtain ⟨short, kQ⟩ := kQ hn hp
        have hp2 : isSeq d2 = true ∧ (seqOf d2).all (pairB ns) = true := by
          unfold pairsB at hp
          rw [Bool.and_eq_true] at hp
          exact hp
        have ho3 := e3 _ _ ho
        have hL3 := e13 _ _ hL
        have neo : o ≠ L := fun z => by
          rw [z, e1 _ _ hL] at no
          cases no
        refine ⟨_, rfl, _, rfl, L, C, dx, _, rfl, hL3, c.cl, c.no, by decide, ?_⟩
        have but4 : But L H3 (upd H3 L (.ins C dx (putF "order" (.ref o) []))) := (But.refl L H3).upd
        have ho4 := but4 _ _ neo ho3
        refine ⟨_, rfl, _, rfl, o, v2, d2, ns, (seqOf d2).map pairOf, rfl, sq_of ho4, N, dd_ins hL3 but4 _ _ (Dd.ext e13 _ _ g2), hp2.1, prs_of hp2.2, pairs_ok hp2.2 short, fun b H5 e5 nb dc => ?_⟩
        have hL5 : H5 L = some (.ins C dx (putF "order" (.ref o) [])) := e5 _ _ upd_same
        refine ⟨_, rfl, L, C, dx, _, rfl, hL5, c.cl, c.nb, (show 1 < 1000 by decide), ?_⟩
        have but6 : But L H5 (upd H5 L (.ins C dx (putF "below" (.ref b) (putF "order" (.ref o) [])))) := (But.refl L H5).upd
        have neb : b ≠ L := fun z => by
          rw [z] at nb
          rw [upd_same] at nb
          cases nb
        refine kQ _ (fun a u n h => but6 a u n (e5 a u (but4 a u n (e13 a u h)))) ⟨dx, o, b, upd_same, but6 _ _ neo (e5 _ _ ho4), ?_⟩
        obtain ⟨ka, k1, k2⟩ := dc
        exact ⟨ka, but6 _ _ neb k1, k2.but but6 fun xs z => by rw [hL5] at z; cases z⟩
end
end K54
set_option maxHeartbeats 4000000
namespace K54
open PySem PySem.Spec PyProof.Rows L2 Evl My LamX
/-! names(): a list of its own -/
def sp0L (C : Addr) : Sp := fun vs H Q _ => ∃ (L : Addr) (ns : List Str) (bl : Str → List Str), vs = [.ref L] ∧ LvAt C H L ns bl ∧ LvOk ns bl ∧ ∀ p H', H p = none → Ex H H' → H' p = some (.lst (ns.map V.str)) → Q (.ref p) H'
section
variable {P : Program} {w : World} {K : PySem.W.Frag} {mg : Str → Option Value} {base : Heap} {f C D : Addr} {fd : FuncData}
theorem ok_namL (F : Fun K "names" "Levels.names" mNames f fd) (T : Txt mg) (c : LvC K C) : FnOk P w K mg base CX0 1 f fd ["self"] (sp0L C) := by
  refine F.ok scNam (fun vs H Q E h => ?_) (fun cdv A outer s H vs Q E hr h => ?_)
  · obtain ⟨L, ns, bl, rfl, _⟩ := h
    rfl
  · obtain ⟨L, ns, bl, rfl, lv, ok, kQ⟩ := h
    refine ⟨_, pss_one (ps_ret (pe_callTy call_list_of (by rfl) T.lst (by decide +kernel) (pa_cons (pe_fld (pv 0) rfl) pa_nil))), ?_⟩
    exact (edl_listQ (d := .list (txts ns)) (ed_order c lv (ev_var rfl)) rfl) H (Ex.refl _) _ fun p xs H1 np e1 hp gp => by
      have gp2 : Dds K H1 xs (txts ns) := gp
      rw [Dds.txts gp2] at hp
      exact kQ p H1 np e1 hp
end
/-! Levels(..) -/
structure MkL (P : Program) (w : World) (K : PySem.W.Frag) (mg : Str → Option Value) (base : Heap) (C D1 : Addr) : Prop where
  ex : ∃ (f : Addr) (fd : FuncData) (t : Addr), Mk K C f ∧ FnOk P w K mg base (L2.CX P w) 4 f fd ["self", "names", "pairs"] (spInit K C D1) ∧ Binds K fd ["self", "names", "pairs"] [] ∧ Binds K fd ["self", "names", "pairs"] [.ref t] ∧ ∀ H, SqT K H t []
  g : mg "Levels" = some (.ref C)
theorem mkLv {X : Cx} {C D1 : Addr} {e : Expr} {es : List Expr} {t : TA} {p pos : Pos} {E : XK} (M : MkL X.prog X.w X.K X.mg X.base C D1) (hr : Room 5 X.A) (hg : Gl X "Levels") (hx : Passes (L2.CX X.prog X.w) X E) (ha : PA X (e :: es) t)
    (he : starEach (e :: es) X.env = (false, eval e X.env) :: starEach es X.env := by rfl) (hpl : (backTo pos (starEach es X.env)).any (·.1) = false := by rfl) :
    PE X (.Call (.Name "Levels" p) (e :: es) [] pos) (tMake C (spInit X.K C D1) [] E t) := by
  obtain ⟨f, fd, _, M1, F, b, _⟩ := M.ex
  exact pe_make M1 F hr hg M.g b .nil hx ha (by decide) he hpl
def tMk1 (K : PySem.W.Frag) (C D1 : Addr) (E : XK) (t : TA) : TE := fun σ H Q => ∀ d : Addr, (∀ H, SqT K H d []) → tMake C (spInit K C D1) [.ref d] E t σ H Q
theorem mkLv1 {X : Cx} {C D1 : Addr} {e : Expr} {es : List Expr} {t : TA} {p pos : Pos} {E : XK} (M : MkL X.prog X.w X.K X.mg X.base C D1) (hr : Room 5 X.A) (hg : Gl X "Levels") (hx : Passes (L2.CX X.prog X.w) X E) (ha : PA X (e :: es) t)
    (he : starEach (e :: es) X.env = (false, eval e X.env) :: starEach es X.env := by rfl) (hpl : (backTo pos (starEach es X.env)).any (·.1) = false := by rfl) :
    PE X (.Call (.Name "Levels" p) (e :: es) [] pos) (tMk1 X.K C D1 E t) := by
  obtain ⟨f, fd, d, M1, F, _, b, hd⟩ := M.ex
  exact peImp (pe_make M1 F hr hg M.g b (dvs := [.ref d]) (.cons (show RelV (.ref d) (.ref d) from rfl) .nil) hx ha (by decide) he hpl) fun σ H Q h => h d hd
/-- a new Levels -/
def EvLv (C : Addr) (te : TE) (σ : L2.St) (H : Hp) (ns : List Str) (bl : Str → List Str) : Prop := ∀ H1, Ex H H1 → ∀ Q : VK, (∀ L H2, Ex H1 H2 → LvAt C H2 L ns bl → Q (.ref L) H2) → te σ H1 Q
section
variable {K : PySem.W.Frag} {C D D1 : Addr} {σ : L2.St} {H : Hp} {ns ns2 : List Str} {bl bl2 : Str → List Str} {d d1 d2 : PyData} {E : XK} {ta tb te : TE} {t : TA} {L J : Addr} {De : Ends} {i : Nat} {tz : TS}
theorem ex_made {H1 H2 H' : Hp} {x dx : Addr} (e : Ex H1 H2) (n1 : H2 x = none) (n2 : H2 dx = none) (b : But x (upd (upd H2 dx (.own x)) x (.ins C dx [])) H') : Ex H1 H' := fun a o h => by
  have h2 := e a o h
  have a1 : a ≠ x := ne_of_none h2 n1
  have a2 : a ≠ dx := ne_of_none h2 n2
  exact b a o a1 (by rw [upd_ne a1, upd_ne a2]; exact h2)
theorem made (a : EvDs K t σ H [d1, d2]) (s1 : small d1 = true) (s2 : small d2 = true) (hn : namesD d1 = true) (hp : pairsB ((seqOf d1).map strD) d2 = true) (short : (seqOf d2).length ≤ 10) :
    EvLv C (tMake C (spInit K C D1) [] E t) σ H ((seqOf d1).map strD) (belF ((seqOf d1).map strD) ((seqOf d2).map pairOf) ((seqOf d1).map strD)) := fun H1 e Q q => a H1 e _ fun vs H2 e2 g x dx n1 n2 n3 => by
  have e3 : Ex H2 (upd (upd H2 dx (.own x)) x (.ins C dx [])) := (Ex.new n2).trans (Ex.new (by rw [upd_ne (Ne.symm n3)]; exact n1))
  cases g with
  | cons g1 g2 =>
    cases g2 with
    | cons g2 g3 =>
      cases g3
      exact ⟨x, dx, _, _, d1, d2, rfl, upd_same, Dd.ext e3 _ _ g1, s1, Dd.ext e3 _ _ g2, s2, (fun _ _ => ⟨short, fun H' b lv => ⟨rfl, q x H' (ex_made e2 n1 n2 b) lv⟩⟩), (fun z => by rw [hn] at z; cases z), fun _ z => by rw [hp] at z; cases z⟩
theorem made1 (a : EvDs K t σ H [d1]) (s1 : small d1 = true) (hn : namesD d1 = true) :
    EvLv C (tMk1 K C D1 E t) σ H ((seqOf d1).map strD) (belF ((seqOf d1).map strD) [] ((seqOf d1).map strD)) := fun H1 e Q q d hd => a H1 e _ fun vs H2 e2 g x dx n1 n2 n3 => by
  have e3 : Ex H2 (upd (upd H2 dx (.own x)) x (.ins C dx [])) := (Ex.new n2).trans (Ex.new (by rw [upd_ne (Ne.symm n3)]; exact n1))
  cases g with
  | cons g1 g2 =>
    cases g2
    exact ⟨x, dx, _, _, d1, .tuple [], rfl, upd_same, Dd.ext e3 _ _ g1, s1, .tup (hd _) .nil, rfl, (fun _ _ => ⟨Nat.zero_le _, fun H' b lv => ⟨rfl, q x H' (ex_made e2 n1 n2 b) lv⟩⟩), (fun z => by rw [hn] at z; cases z), fun _ z => by cases z⟩
theorem q_asgLv (h : EvLv C te σ H ns bl) (k : ∀ L H1, Ex H H1 → LvAt C H1 L ns bl → tz De (σ.set i (some (.ref L))) H1) : tSeq (tAsg te (gName i)) tz De σ H := h H (Ex.refl _) _ fun L H1 e lv => k L H1 e lv
end
/-! == -/
end K54
set_option maxHeartbeats 4000000
/-! a dict whose keys are None and tuples, side by side: found, asked, set by default -/
namespace My
open PySem PySem.Spec PyProof.Rows L2
/-- an entry: the key, the value that is this key, what lies there -/
abbrev Ent := NestedKey × Value × Value
def entM (w : World) (x : Ent) : DictEntry := ⟨x.1.hash w, x.2.1, x.2.2⟩
def atM (xs : List Ent) (k : NestedKey) : Option Value := (xs.find? fun x => decide (x.1 = k)).map (·.2.2)
structure KeyM (h : Heap) (k : NestedKey) (v : Value) : Prop where
  is : NestedIs h k v
  dp : k.depth ≤ 8
  nr : v = .none ∨ ∃ a, v = .ref a
theorem nodup_at {xs : List Ent} (nd : (xs.map (·.1)).Nodup) {i j : Nat} {x y : Ent} (hi : xs[i]? = some x) (hj : xs[j]? = some y) (e : x.1 = y.1) : i = j := by
  obtain ⟨hi', ei⟩ := List.getElem?_eq_some_iff.mp hi
  obtain ⟨hj', ej⟩ := List.getElem?_eq_some_iff.mp hj
  have a1 : i < (xs.map (·.1)).length := by rw [List.length_map]; exact hi'
  have a2 : j < (xs.map (·.1)).length := by rw [List.length_map]; exact hj'
  refine (List.getElem_inj nd (h₀ := a1) (h₁ := a2)).mp ?_
  rw [List.getElem_map, List.getElem_map, ei, ej, e]
theorem atM_of {xs : List Ent} (nd : (xs.map (·.1)).Nodup) {x : Ent} (m : x ∈ xs) : atM xs x.1 = some x.2.2 := by
  unfold atM
  cases hf : xs.find? fun y => decide (y.1 = x.1) with
  | none =>
    have z := List.find?_eq_none.mp hf x m
    simp at z
  | some y =>
    have e : y.1 = x.1 := of_decide_eq_true (List.find?_some (p := fun y : Ent => decide (y.1 = x.1)) hf)
    obtain ⟨i, hi⟩ := List.mem_iff_getElem?.mp (List.mem_of_find?_eq_some hf)
    obtain ⟨j, hj⟩ := List.mem_iff_getElem?.mp m
    have ij := nodup_at nd hi hj e
    subst ij
    rw [hi] at hj
    cases hj
    rfl
theorem atM_no {xs : List Ent} {k : NestedKey} (h : ∀ x ∈ xs, x.1 ≠ k) : atM xs k = none := by
  unfold atM
  have z : (xs.find? fun y => decide (y.1 = k)) = none := List.find?_eq_none.mpr fun x m e => h x m (of_decide_eq_true e)
  rw [z]
  rfl
section
variable {P : Program} {w : World} {A : Around} {E : Value → Shared → Prop} {s : Shared} {d : Addr} {o : Obj} {es : Array DictEntry} {ep : Nat} {xs : List Ent} {k : NestedKey} {v : Value}
def plcs (es : Array DictEntry) (h : Int) : List Nat := placesWithHash es.size (fun i => es[i]?.map (·.hash)) h
theorem plcs_nodup (h : Int) : (plcs es h).Nodup := List.Nodup.sublist List.filter_sublist List.nodup_range
theorem ent_at (he : es.toList = xs.map (entM w)) (i : Nat) : es[i]? = (xs[i]?).map (entM w) := by
  rw [← Array.getElem?_toList, he, List.getElem?_map]
theorem ent_sz (he : es.toList = xs.map (entM w)) : es.size = xs.length := by
  rw [← Array.length_toList, he, List.length_map]
theorem plcs_has (he : es.toList = xs.map (entM w)) {i : Nat} {x : Ent} (hi : xs[i]? = some x) : i ∈ plcs es (x.1.hash w) := by
  refine List.mem_filter.mpr ⟨List.mem_range.mpr ?_, ?_⟩
  · rw [ent_sz he]
    exact (List.getElem?_eq_some_iff.mp hi).1
  · show ((es[i]?.map (·.hash)) == some (x.1.hash w)) = true
    rw [ent_at he, hi]
    exact beq_self_eq_true _
theorem plcs_lt (he : es.toList = xs.map (entM w)) {i : Nat} {h : Int} (m : i ∈ plcs es h) : ∃ x, xs[i]? = some x := by
  have lt := List.mem_range.mp (List.mem_filter.mp m).1
  rw [ent_sz he] at lt
  exact ⟨_, List.getElem?_eq_getElem lt⟩
theorem eqM (hu : A.units + 8 < cLine) {x y : NestedKey} {a b : Value} (hx : KeyM s.heap x a) (hy : KeyM s.heap y b) {Q : Bool → Shared → Prop} (h : Q (decide (x = y)) s) : wpAny (model P w) A (eqBool a b) Q E s := by
  refine eqAt_key x y A s a b hx.is hy.is (by have := hx.dp; omega) _ _ _ _ ?_
  rw [← NestedKey.decide_eq]
  exact h
theorem tellM (hv : KeyM s.heap k v) {st : List Value} (hst : ∀ u ∈ st, ∃ k', KeyM s.heap k' u) {Q : Bool → Shared → Prop} (h : Q false s) : wpAny (model P w) A (tableMayTell v st) Q E s := by
  unfold tableMayTell
  split
  · exact wpAny_pure h
  refine wpAny_bind (quiet_key k v 8 s hv.is hv.dp _ _ _ ?_)
  simp only [Bool.not_true, Bool.false_eq_true, if_false]
  refine wpAny_bind ?_
  refine (wpAny_forIn_list _ (fun rest r s' => s' = s ∧ r = (none, ()) ∧ ∀ u ∈ rest, u ∈ st) _ ?_ ?_ _ _ ⟨rfl, rfl, fun _ m => m⟩)
  · rintro u rest r s' ⟨rfl, rfl, sub⟩
    obtain ⟨k', hk'⟩ := hst u (sub u (List.mem_cons_self ..))
    refine wpAny_bind (quiet_key k' u 8 s' hk'.is hk'.dp _ _ _ ?_)
    simp only [Bool.not_true, Bool.false_eq_true, if_false]
    exact wpAny_pure ⟨rfl, rfl, fun u' m => sub u' (List.mem_cons_of_mem _ m)⟩
  · rintro r s' ⟨rfl, rfl, _⟩
    exact wpAny_pure h
/-- where the search stands: what lies ahead of it is no hit, or the hit is known -/
def Hit (xs : List Ent) (k : NestedKey) (done : List Nat) (hit : Option Nat) : Prop := (hit = none ∧ ∀ i ∈ done, ∀ x, xs[i]? = some x → x.1 ≠ k) ∨ ∃ j x, hit = some j ∧ j ∈ done ∧ xs[j]? = some x ∧ x.1 = k
theorem find_mix {Q : Option Nat → Shared → Prop} (hu : A.units + 8 < cLine) (hv : KeyM s.heap k v) (ho : s.heap.get? d = some o) (hd : o.data = .dict es ep) (he : es.toList = xs.map (entM w)) (his : ∀ x ∈ xs, KeyM s.heap x.1 x.2.1) (nd : (xs.map (·.1)).Nodup)
    (hn : (∀ x ∈ xs, x.1 ≠ k) → Q none s) (hs : ∀ j x, xs[j]? = some x → x.1 = k → Q (some j) s) : wpAny (model P w) A (dictFind d v (k.hash w)) Q E s := by
  have fin : ∀ hit, Hit xs k (plcs es (k.hash w)) hit → Q hit s := fun hit h => by
    rcases h with ⟨rfl, no⟩ | ⟨j, x, rfl, _, hj, e⟩
    · refine hn fun x m e => ?_
      obtain ⟨i, hi⟩ := List.mem_iff_getElem?.mp m
      have z := plcs_has he hi
      rw [e] at z
      exact no i z x hi e
    · exact hs j x hj e
  have stored : ∀ u ∈ (plcs es (k.hash w)).filterMap (fun i => es[i]?.map (·.key)), ∃ k', KeyM s.heap k' u := fun u m => by
    obtain ⟨i, hi, e⟩ := List.mem_filterMap.mp m
    obtain ⟨x, hx⟩ := plcs_lt he hi
    rw [ent_at he, hx] at e
    have e2 : x.2.1 = u := Option.some.inj e
    exact ⟨x.1, by rw [← e2]; exact his x (List.mem_of_getElem? hx)⟩
  have next : ∀ {done : List Nat} {i : Nat} {rest : List Nat} {hit : Option Nat} {x : Ent}, plcs es (k.hash w) = done ++ i :: rest → xs[i]? = some x → x.1 ≠ k → Hit xs k done hit → Hit xs k (done ++ [i]) hit := fun {done i rest hit x} _ hx ne h => by
    rcases h with ⟨h0, no⟩ | ⟨j, y, h1, hj, h2, h3⟩
    · refine .inl ⟨h0, fun i' m y hy => ?_⟩
      rcases List.mem_append.mp m with m | m
      · exact no i' m y hy
      · rw [List.mem_singleton.mp m, hx] at hy
        cases hy
        exact ne
    · exact .inr ⟨j, y, h1, List.mem_append_left _ hj, h2, h3⟩
  have only : ∀ {done : List Nat} {i : Nat} {rest : List Nat} {hit : Option Nat} {x : Ent}, plcs es (k.hash w) = done ++ i :: rest → xs[i]? = some x → x.1 = k → Hit xs k done hit → hit = none := fun {done i rest hit x} hp hx e h => by
    rcases h with ⟨h0, _⟩ | ⟨j, y, h1, hj, h2, h3⟩
    · exact h0
    · have ij := nodup_at nd hx h2 (e.trans h3.symm)
      subst ij
      have n := plcs_nodup (es := es) (k.hash w)
      rw [hp, List.nodup_append] at n
      exact absurd rfl (n.2.2 i hj i (List.mem_cons_self ..))
  have hkk : ∀ {i : Nat} {x : Ent} {rest done : List Nat}, plcs es (k.hash w) = done ++ i :: rest → xs[i]? = some x → es[i]? = some ⟨k.hash w, x.2.1, x.2.2⟩ := fun {i x rest done} hp hx => by
    have m : i ∈ plcs es (k.hash w) := by
      rw [hp]
      exact List.mem_append_right _ (List.mem_cons_self ..)
    have z : ((es[i]?.map (·.hash)) == some (k.hash w)) = true := (List.mem_filter.mp m).2
    rw [ent_at he, hx] at z ⊢
    have z2 : x.1.hash w = k.hash w := by simpa [entM] using z
    show some (entM w x) = _
    unfold entM
    rw [z2]
  unfold dictFind
  with_reducible refine wpAny_holding ?_
  refine wpAny_bind (wpAny_dictEntries ho hd ?_)
  rcases hv.nr with rfl | ⟨a, rfl⟩
  · dsimp only
    by_cases hall : ((Value.none :: (placesWithHash es.size (fun i => es[i]?.map (·.hash)) (k.hash w)).filterMap (fun i => es[i]?.map (·.key))).all carriedByValue) = true
    · have z := hall
      rw [if_pos hall]
      refine wpAny_bind ?_
      refine wpAny_forIn_list _ (fun rest b s' => s' = s ∧ b = (none, ()) ∧ ∃ done, plcs es (k.hash w) = done ++ rest ∧ Hit xs k done none) _ ?_ ?_ _ _ ⟨rfl, rfl, [], rfl, .inl ⟨rfl, fun _ m => by cases m⟩⟩
      · rintro i rest b s' ⟨rfl, rfl, done, hp, hH⟩
        obtain ⟨x, hx⟩ := plcs_lt he (i := i) (h := k.hash w) (by rw [hp]; exact List.mem_append_right _ (List.mem_cons_self ..))
        have hp2 : plcs es (k.hash w) = (done ++ [i]) ++ rest := by rw [hp, List.append_assoc]; rfl
        rw [hkk hp hx]
        dsimp only
        rw [if_pos (beq_self_eq_true _)]
        refine wpAny_bind (wpAny_dictEpoch ho hd (wpAny_bind (eqM hu (his x (List.mem_of_getElem? hx)) hv (wpAny_bind (wpAny_dictEpoch ho hd ?_)))))
        rw [if_neg (show ¬ (ep != ep) = true by simp)]
        by_cases hxk : x.1 = k
        · rw [decide_eq_true hxk]
          simp only [if_true]
          refine wpAny_bind (wpAny_rule ?_)
          exact wpAny_pure (wpAny_pure (hs i x hx hxk))
        · rw [decide_eq_false hxk]
          simp only [Bool.false_eq_true, if_false]
          refine wpAny_bind (wpAny_rule ?_)
          exact wpAny_pure ⟨rfl, rfl, done ++ [i], hp2, next hp hx hxk hH⟩
      · rintro b s' ⟨rfl, rfl, done, hp, hH⟩
        rw [List.append_nil] at hp
        rw [← hp] at hH
        exact wpAny_pure (fin none hH)
    · rw [if_neg hall]
      by_cases hone : (((placesWithHash es.size (fun i => es[i]?.map (·.hash)) (k.hash w)).filterMap (fun i => es[i]?.map (·.key))) == [Value.none]) = true <;> (first | rw [if_pos hone] | rw [if_neg hone]) <;> (first | refine wpAny_bind (wpAny_pure ?_) | refine wpAny_bind (tellM hv stored ?_))
      all_goals
        rw [if_neg (by simp)]
        refine wpAny_bind ?_
        refine wpAny_forIn_list _ (fun rest b s' => s' = s ∧ ∃ done hit, b = (none, hit) ∧ plcs es (k.hash w) = done ++ rest ∧ Hit xs k done hit) _ ?_ ?_ _ _ ⟨rfl, [], none, rfl, rfl, .inl ⟨rfl, fun _ m => by cases m⟩⟩
        · rintro i rest b s' ⟨rfl, done, hit, rfl, hp, hH⟩
          obtain ⟨x, hx⟩ := plcs_lt he (i := i) (h := k.hash w) (by rw [hp]; exact List.mem_append_right _ (List.mem_cons_self ..))
          have hp2 : plcs es (k.hash w) = (done ++ [i]) ++ rest := by rw [hp, List.append_assoc]; rfl
          rw [hkk hp hx]
          dsimp only
          rw [if_pos (beq_self_eq_true _)]
          refine wpAny_bind (wpAny_dictEpoch ho hd (wpAny_bind (eqM hu (his x (List.mem_of_getElem? hx)) hv (wpAny_bind (wpAny_dictEpoch ho hd ?_)))))
          rw [if_neg (show ¬ (ep != ep) = true by simp)]
          by_cases hxk : x.1 = k
          · have h0 := only hp hx hxk hH
            subst h0
            rw [decide_eq_true hxk]
            simp only [if_true, Option.isSome_none, Bool.false_eq_true, if_false]
            refine wpAny_bind (wpAny_rule ?_)
            split
            · exact wpAny_pure (wpAny_pure (hs i x hx hxk))
            · exact wpAny_pure ⟨rfl, done ++ [i], some i, rfl, hp2, .inr ⟨i, x, rfl, List.mem_append_right _ (List.mem_singleton.mpr rfl), hx, hxk⟩⟩
          · rw [decide_eq_false hxk]
            simp only [Bool.false_eq_true, if_false, Bool.false_and]
            refine wpAny_bind (wpAny_rule ?_)
            exact wpAny_pure ⟨rfl, done ++ [i], hit, rfl, hp2, next hp hx hxk hH⟩
        · rintro b s' ⟨rfl, done, hit, rfl, hp, hH⟩
          rw [List.append_nil] at hp
          rw [← hp] at hH
          exact wpAny_pure (fin hit hH)
  · dsimp only
    rw [if_neg (show ¬ ((Value.ref a :: (placesWithHash es.size (fun i => es[i]?.map (·.hash)) (k.hash w)).filterMap (fun i => es[i]?.map (·.key))).all carriedByValue) = true by simp [carriedByValue])]
    rw [if_neg (show ¬ (es.any fun e => e.key == Value.ref a && e.hash != k.hash w) = true by
      rw [← Array.any_toList, List.any_eq_true]
      rintro ⟨e, hin, hc⟩
      rw [he] at hin
      obtain ⟨x, hx, rfl⟩ := List.mem_map.mp hin
      rw [Bool.and_eq_true] at hc
      obtain ⟨h1, h2⟩ := hc
      have e1 : x.2.1 = Value.ref a := eq_of_beq h1
      have ix := (his x hx).is
      rw [e1] at ix
      have e2 := NestedIs.inj _ _ _ ix hv.is
      unfold entM at h2
      rw [e2] at h2
      simp at h2)]
    by_cases hone : (((placesWithHash es.size (fun i => es[i]?.map (·.hash)) (k.hash w)).filterMap (fun i => es[i]?.map (·.key))) == [Value.ref a]) = true <;> (first | rw [if_pos hone] | rw [if_neg hone]) <;> (first | refine wpAny_bind (wpAny_pure ?_) | refine wpAny_bind (tellM hv stored ?_))
    all_goals
      rw [if_neg (by simp)]
      refine wpAny_bind ?_
      refine wpAny_forIn_list _ (fun rest b s' => s' = s ∧ ∃ done hit, b = (none, hit) ∧ plcs es (k.hash w) = done ++ rest ∧ Hit xs k done hit) _ ?_ ?_ _ _ ⟨rfl, [], none, rfl, rfl, .inl ⟨rfl, fun _ m => by cases m⟩⟩
      · rintro i rest b s' ⟨rfl, done, hit, rfl, hp, hH⟩
        obtain ⟨x, hx⟩ := plcs_lt he (i := i) (h := k.hash w) (by rw [hp]; exact List.mem_append_right _ (List.mem_cons_self ..))
        have hp2 : plcs es (k.hash w) = (done ++ [i]) ++ rest := by rw [hp, List.append_assoc]; rfl
        rw [hkk hp hx]
        dsimp only
        rw [if_pos (beq_self_eq_true _)]
        refine wpAny_bind (wpAny_dictEpoch ho hd (wpAny_bind (eqM hu (his x (List.mem_of_getElem? hx)) hv (wpAny_bind (wpAny_dictEpoch ho hd ?_)))))
        rw [if_neg (show ¬ (ep != ep) = true by simp)]
        by_cases hxk : x.1 = k
        · have h0 := only hp hx hxk hH
          subst h0
          rw [decide_eq_true hxk]
          simp only [if_true, Option.isSome_none, Bool.false_eq_true, if_false]
          refine wpAny_bind (wpAny_rule ?_)
          split
          · exact wpAny_pure (wpAny_pure (hs i x hx hxk))
          · exact wpAny_pure ⟨rfl, done ++ [i], some i, rfl, hp2, .inr ⟨i, x, rfl, List.mem_append_right _ (List.mem_singleton.mpr rfl), hx, hxk⟩⟩
        · rw [decide_eq_false hxk]
          simp only [Bool.false_eq_true, if_false, Bool.false_and]
          refine wpAny_bind (wpAny_rule ?_)
          exact wpAny_pure ⟨rfl, done ++ [i], hit, rfl, hp2, next hp hx hxk hH⟩
      · rintro b s' ⟨rfl, done, hit, rfl, hp, hH⟩
        rw [List.append_nil] at hp
        rw [← hp] at hH
        exact wpAny_pure (fin hit hH)
/-- at d stands a dict with these entries -/
def DictM (w : World) (h : Heap) (d : Addr) (xs : List Ent) : Prop := ∃ o es ep, h.get? d = some o ∧ o.ExactDict ∧ o.data = .dict es ep ∧ es.toList = xs.map (entM w)
theorem DictM.typeIs {s : Shared} (x : DictM w s.heap d xs) : s.TypeIs (.ref d) "dict" := let ⟨o, _, _, ho, hc, _⟩ := x; ⟨o, ho, hc.1⟩
theorem get_mix {Q : Option Value → Shared → Prop} (hu : A.units + 8 < cLine) (hv : KeyM s.heap k v) (hm : DictM w s.heap d xs) (his : ∀ x ∈ xs, KeyM s.heap x.1 x.2.1) (nd : (xs.map (·.1)).Nodup) (h : Q (atM xs k) { s with toks := s.toks + k.draws }) : wpAny (model P w) A (dictGet d v) Q E s := by
  obtain ⟨o, es, ep, ho, _, hd, he⟩ := hm
  unfold dictGet
  with_reducible refine wpAny_holding ?_
  refine wpAny_bind (pyHash_key _ _ _ _ _ hv.is (by have := hv.dp; omega) (wpAny_bind (find_mix (s := { s with toks := s.toks + k.draws }) hu hv ho hd he his nd (fun no => ?_) fun j x hj e => ?_)))
  · rw [atM_no no] at h
    exact wpAny_pure h
  · refine wpAny_bind (wpAny_dictEntries (s := { s with toks := s.toks + k.draws }) ho hd ?_)
    have z := atM_of nd (List.mem_of_getElem? hj)
    rw [e] at z
    rw [ent_at he, hj]
    rw [z] at h
    exact wpAny_pure h
theorem set_mix {dv : Value} {Q : Value → Shared → Prop} (hu : A.units + 8 < cLine) (hv : KeyM s.heap k v) (hm : DictM w s.heap d xs) (his : ∀ x ∈ xs, KeyM s.heap x.1 x.2.1) (nd : (xs.map (·.1)).Nodup) (hz : xs.length ≤ sizeLine)
    (h1 : ∀ u, atM xs k = some u → Q u { s with toks := s.toks + k.draws })
    (h2 : atM xs k = none → ∀ h', DictM w h' d (xs ++ [(k, v, dv)]) → Heap.SameBut d s.heap h' → Q dv { s with heap := h', toks := s.toks + k.draws }) : wpAny (model P w) A (dictSetDefault d v dv) Q E s := by
  obtain ⟨o, es, ep, ho, hc, hd, he⟩ := hm
  unfold dictSetDefault
  with_reducible refine wpAny_holding ?_
  refine wpAny_bind (pyHash_key _ _ _ _ _ hv.is (by have := hv.dp; omega) (wpAny_bind (find_mix (s := { s with toks := s.toks + k.draws }) hu hv ho hd he his nd (fun no => ?_) fun j x hj e => ?_)))
  · refine wpAny_bind (wpAny_rule (wpAny_bind (wpAny_updateDictKeys (hz := by rw [ent_sz he]; exact hz) (s := { s with toks := s.toks + k.draws }) ho hd (wpAny_pure (h2 (atM_no no) _ ⟨_, _, ep + 1, Heap.get?_update_self _ ho (Obj.isFreed_of_dict (Obj.data_mapDictKeys hd _)), hc.mapDictKeys _, Obj.data_mapDictKeys hd _, ?_⟩ (Heap.SameBut.update ..))))))
    rw [Array.toList_push, he, List.map_append]
    rfl
  · refine wpAny_bind (wpAny_dictEntries (s := { s with toks := s.toks + k.draws }) ho hd ?_)
    have z := atM_of nd (List.mem_of_getElem? hj)
    rw [e] at z
    rw [ent_at he, hj]
    exact wpAny_bind (wpAny_rule (wpAny_pure (h1 _ z)))
end
section
variable {P : Program} {w : World} {A : Around} {E : Value → Shared → Prop} {s : Shared} {d : Addr} {xs : List Ent} {k : NestedKey} {v dv : Value}
theorem meets_getM (w : World) (d : Addr) (v dv : Value) (hd : (d == sysModules) = false) :
    MeetsIn P w (Builtin.«dict.get» ⟨[.ref d, v, dv], []⟩) (fun A R s => A.in1.units + 8 < cLine ∧ ∃ k xs, KeyM s.heap k v ∧ DictM w s.heap d xs ∧ (∀ x ∈ xs, KeyM s.heap x.1 x.2.1) ∧ (xs.map (·.1)).Nodup ∧ R (.ok (.ret ((atM xs k).getD dv))) { s with toks := s.toks + k.draws }) :=
  .of_wp fun A R s ⟨hu, k, xs, hv, hm, his, nd, h⟩ => by
    show wpAny _ _ (dictGet d v >>= _) _ _ s
    refine wpAny_bind (get_mix hu hv hm his nd ?_)
    cases hf : atM xs k with
    | some u =>
      rw [hf] at h
      exact wpAny_pure ⟨u, rfl, h⟩
    | none =>
      rw [hf] at h
      show wpAny _ _ (Builtin.Dict.missed d v >>= _) _ _ _
      exact wpAny_bind (wpAny_missed_other hd (wpAny_pure ⟨dv, rfl, h⟩))
theorem meets_setM (w : World) (d : Addr) (v dv : Value) (hd : (d == sysModules) = false) :
    MeetsIn P w (Builtin.«dict.setdefault» ⟨[.ref d, v, dv], []⟩) (fun A R s => A.in1.units + 8 < cLine ∧ ∃ k xs, KeyM s.heap k v ∧ DictM w s.heap d xs ∧ (∀ x ∈ xs, KeyM s.heap x.1 x.2.1) ∧ (xs.map (·.1)).Nodup ∧ xs.length ≤ sizeLine ∧
      (∀ u, atM xs k = some u → R (.ok (.ret u)) { s with toks := s.toks + k.draws }) ∧ (atM xs k = none → ∀ h', DictM w h' d (xs ++ [(k, v, dv)]) → Heap.SameBut d s.heap h' → R (.ok (.ret dv)) { s with heap := h', toks := s.toks + k.draws })) :=
  .of_wp fun A R s ⟨hu, k, xs, hv, hm, his, nd, hz, h1, h2⟩ => by
    unfold Builtin.«dict.setdefault»
    refine wpAny_bind ?_
    unfold Builtin.Dict.keyAndDefault
    refine wpAny_bind (wpAny_notOrdered_dict hm.typeIs (wpAny_pure ?_))
    show wpAny _ _ (if (d == sysModules) = true then _ else (dictSetDefault d v dv >>= _)) _ _ s
    rw [if_neg (by rw [hd]; exact Bool.false_ne_true)]
    exact wpAny_bind (set_mix hu hv hm his nd hz (fun u e => wpAny_pure ⟨u, rfl, h1 u e⟩) fun e h' hm' sb => wpAny_pure ⟨dv, rfl, h2 e h' hm' sb⟩)
end
end My
set_option maxHeartbeats 4000000
/-! a dict whose keys are None and tuples of ints and texts, as a tracked object -/
namespace My
open PySem PySem.Spec PyProof.Rows L2 Evl
def nkK : L2.Key → NestedKey
  | .inl i => .num i
  | .inr x => .text x
def nkT (ks : List L2.Key) : NestedKey := .tup (ks.map nkK)
/-- None or a tuple of ints and texts, as a key -/
inductive MKey where
  | non
  | tup (ks : List L2.Key)
  deriving DecidableEq
def MKey.nk : MKey → NestedKey
  | .non => .none
  | .tup ks => nkT ks
theorem nkK_inj {a b : L2.Key} (h : nkK a = nkK b) : a = b := by
  cases a <;> cases b <;> first | (cases h; rfl) | cases h
theorem nk_inj {a b : MKey} (h : a.nk = b.nk) : a = b := by
  cases a with
  | non =>
    cases b with
    | non => rfl
    | tup ks => cases h
  | tup ks =>
    cases b with
    | non => cases h
    | tup ls =>
      have z : ks.map nkK = ls.map nkK := by
        have z2 : NestedKey.tup (ks.map nkK) = .tup (ls.map nkK) := h
        injection z2
      rw [(List.map_inj_right fun _ _ => nkK_inj).mp z]
/-- v is this key -/
def KmV (H : Hp) : V → MKey → Prop
  | .non, .non => True
  | .ref a, .tup ks => H a = some (.tup (ks.map kV))
  | _, _ => False
theorem KmV.ext {H H' : Hp} (e : ∀ b o, H b = some o → H' b = some o) {v : V} {k : MKey} (h : KmV H v k) : KmV H' v k := by
  cases v <;> cases k <;> first | exact h | exact e _ _ h
/-- a reference, or None, has one value -/
def vvM : V → Value
  | .ref a => .ref a
  | _ => .none
def IsR : V → Prop
  | .ref _ => True
  | .non => True
  | _ => False
theorem vv_is {v : V} {u : Value} (h : IsR v) (r : RelV v u) : u = vvM v := by
  cases v <;> first | exact r | cases h
theorem KmV.isR {H : Hp} {v : V} {k : MKey} (h : KmV H v k) : IsR v := by
  cases v <;> cases k <;> first | trivial | cases h
abbrev MEnt := MKey × V × V
def entV (e : MEnt) : Ent := (e.1.nk, vvM e.2.1, vvM e.2.2)
def MxO (w : World) (d : Addr) (kvs : List MEnt) : HO := .ext fun h => (d == sysModules) = false ∧ DictM w h d (kvs.map entV)
def lookM (kvs : List MEnt) (k : MKey) : Option V := (kvs.find? fun e => decide (e.1 = k)).map (·.2.2)
structure MxAt (w : World) (H : Hp) (d : Addr) (kvs : List MEnt) : Prop where
  at_ : H d = some (MxO w d kvs)
  key : ∀ e ∈ kvs, KmV H e.2.1 e.1
  val : ∀ e ∈ kvs, IsR e.2.2
  nd : (kvs.map (·.1)).Nodup
theorem MxAt.ext {w : World} {H H' : Hp} {d : Addr} {kvs : List MEnt} (e : ∀ b o, H b = some o → H' b = some o) (h : MxAt w H d kvs) : MxAt w H' d kvs := ⟨e _ _ h.at_, fun x m => (h.key x m).ext e, h.val, h.nd⟩
theorem mxO_ok {P : Program} {w : World} {H : Hp} {h : Heap} {d : Addr} {kvs : List MEnt} (hd : (d == sysModules) = false) (m : DictM w h d (kvs.map entV)) : ObjOk P w H h d (MxO w d kvs) := by
  obtain ⟨o, es, ep, ho, r⟩ := id m
  exact ⟨⟨hd, m⟩, ⟨o, ho⟩, fun h1 h2 ⟨q, o, es, ep, ho, r⟩ k => ⟨q, o, es, ep, k o ho, r⟩⟩
theorem items_nk {h : Heap} : ∀ {ks : List L2.Key} {us : List Value}, Vals (ks.map kV) us → NestedAll h (ks.map nkK) us
  | [], _, r => by
    cases r
    exact .nil
  | k :: ks, _, r => by
    cases r with
    | cons r1 r2 =>
      refine .cons ?_ (items_nk r2)
      cases k with
      | inl i =>
        obtain ⟨t, rfl⟩ := r1
        exact .int i t
      | inr x =>
        obtain ⟨t, rfl⟩ := r1
        exact .text x t
theorem depth_nk : ∀ ks : List L2.Key, NestedKey.depthAll (ks.map nkK) = 0
  | [] => rfl
  | k :: ks => by
    have ih := depth_nk ks
    show max (nkK k).depth (NestedKey.depthAll (ks.map nkK)) = 0
    rw [ih]
    cases k <;> rfl
section
variable {X : Cx} {pins : List (Addr × Obj)} {σ : L2.St} {H : Hp} {s : Shared} {d : Addr} {kvs : List MEnt} {k : MKey}
theorem kmv_at (I : Inv X pins σ H s) {v : V} (h : KmV H v k) : KeyM s.heap k.nk (vvM v) := by
  cases v <;> cases k <;> first | cases h | skip
  · exact ⟨.none, (by decide : (0 : Nat) ≤ 8), .inl rfl⟩
  · rename_i a ks
    obtain ⟨_, its, r, o, h1, h2, n, h3⟩ := (show ObjOk X.prog X.w H s.heap a (.tup (ks.map kV)) from I.hok a _ h)
    refine ⟨.tup h1 h2 h3 (by simpa using items_nk r), ?_, .inr ⟨a, rfl⟩⟩
    show NestedKey.depthAll (ks.map nkK) + 1 ≤ 8
    rw [depth_nk]
    decide
theorem mx_get (I : Inv X pins σ H s) (m : MxAt X.w H d kvs) : (d == sysModules) = false ∧ DictM X.w s.heap d (kvs.map entV) ∧ (∀ x ∈ kvs.map entV, KeyM s.heap x.1 x.2.1) ∧ ((kvs.map entV).map (·.1)).Nodup := by
  obtain ⟨⟨hd, dm⟩, _⟩ := I.hok d _ m.at_
  refine ⟨hd, dm, fun x hx => ?_, ?_⟩
  · obtain ⟨e, he, rfl⟩ := List.mem_map.mp hx
    exact kmv_at I (m.key e he)
  · have z : (kvs.map entV).map (·.1) = (kvs.map (·.1)).map MKey.nk := by
      rw [List.map_map, List.map_map]
      rfl
    rw [z]
    exact List.pairwise_map.mpr (m.nd.imp fun n e => n (nk_inj e))
theorem at_look (kvs : List MEnt) (k : MKey) : atM (kvs.map entV) k.nk = (lookM kvs k).map vvM := by
  unfold atM lookM
  rw [List.find?_map]
  have z : ((fun x : Ent => decide (x.1 = k.nk)) ∘ entV) = fun e : MEnt => decide (e.1 = k) := by
    funext e
    show decide (e.1.nk = k.nk) = decide (e.1 = k)
    rw [Bool.eq_iff_iff, decide_eq_true_eq, decide_eq_true_eq]
    exact ⟨nk_inj, fun h => by rw [h]⟩
  rw [z]
  cases kvs.find? fun e : MEnt => decide (e.1 = k) <;> rfl
theorem look_mem {v : V} (h : lookM kvs k = some v) : ∃ e ∈ kvs, e.1 = k ∧ e.2.2 = v := by
  unfold lookM at h
  cases hf : kvs.find? fun e => decide (e.1 = k) with
  | none =>
    rw [hf] at h
    cases h
  | some e =>
    rw [hf] at h
    exact ⟨e, List.mem_of_find?_eq_some hf, of_decide_eq_true (List.find?_some (p := fun e : MEnt => decide (e.1 = k)) hf), Option.some.inj h⟩
theorem rel_vv {v : V} (h : IsR v) : RelV v (vvM v) := by
  cases v <;> first | rfl | cases h
end
/-! ### {} of this kind, get, setdefault -/
def tDNewM (w : World) : TE := fun _ H Q => ∀ p, H p = none → Q (.ref p) (upd H p (MxO w p []))
def tDGetM (w : World) (td ty tx : TE) : TE := fun σ H Q => td σ H fun x H1 => ∃ d, x = .ref d ∧ (∃ kvs, MxAt w H1 d kvs) ∧ ty σ H1 fun y H2 => tx σ H2 fun z H3 => ∃ kvs k, MxAt w H3 d kvs ∧ KmV H3 y k ∧ Q ((lookM kvs k).getD z) H3
def tDSetM (w : World) (td ty tx : TE) : TE := fun σ H Q => td σ H fun x H1 => ∃ d, x = .ref d ∧ (∃ kvs, MxAt w H1 d kvs) ∧ ty σ H1 fun y H2 => tx σ H2 fun z H3 => ∃ kvs k, MxAt w H3 d kvs ∧ KmV H3 y k ∧ IsR z ∧ kvs.length < 1000 ∧
  (∀ u, lookM kvs k = some u → Q u H3) ∧ (lookM kvs k = none → Q z (upd H3 d (MxO w d (kvs ++ [(k, y, z)]))))
section
variable {X : Cx} {o e f : Expr} {apos cpos pos : Pos} {td ty tx : TE}
theorem pe_dnewM : PE X (.Dict [] [] pos) (tDNewM X.w) := ⟨fun pins s σ H Q I h =>
  wpAny_Dict_empty ⟨.ref s.heap.objs.size, _, I.laid (a := s.heap.objs.size) (o := MxO X.w s.heap.objs.size []) (t' := s.toks) (fun _ _ q => Heap.get?_push_of_some _ q) (Nat.le_refl _)
    (mxO_ok (beq_eq_false_iff_ne.mpr (Ne.symm (Nat.ne_of_lt I.big))) ⟨_, #[], 0, Heap.get?_push_size _ rfl, ⟨rfl, rfl, rfl⟩, rfl, rfl⟩), rfl, h _ (I.hok.fresh (Nat.le_refl _))⟩⟩
theorem mx_is {pins : List (Addr × Obj)} {σ : L2.St} {H : Hp} {s : Shared} {d : Addr} {kvs : List MEnt} (I : Inv X pins σ H s) (m : MxAt X.w H d kvs) : s.TypeIs (.ref d) "dict" ∧ (∀ b, Value.ref d = .ref b → ∃ ob, s.heap.get? b = some ob ∧ ob.dict = none) := by
  obtain ⟨_, dm, _⟩ := mx_get I m
  refine ⟨dm.typeIs, fun b e => ?_⟩
  cases e
  obtain ⟨ob, _, _, h1, h2, _⟩ := dm
  exact ⟨ob, h1, h2.2.1⟩
theorem pe_dgetM (hu : X.A.units + 9 < cLine) (ho : PE X o td) (he : PE X e ty) (hf : PE X f tx) (m : M2 X o "get" apos e f cpos) : PE X (.Call (.Attribute o "get" apos) [e, f] [] cpos) (tDGetM X.w td ty tx) := by
  refine ⟨fun pins s σ H Q I h => ?_⟩
  refine wpAny_Call_method m.base m.few m.line PySem.F.plainAttrs_dict PySem.F.slot_dict_get PySem.F.type_dict_get (thn (ho.run pins s σ H _ I h) fun u s1 ⟨x, H1, I1, rx, a, ex, ⟨kvs0, d⟩, q1⟩ => ?_)
  subst ex
  obtain rfl : u = Value.ref a := rx
  obtain ⟨t1, t2⟩ := mx_is I1 d
  refine ⟨t1, t2, ?_⟩
  rw [m.trees]
  refine Calls.callWith_builtin rfl (Calls.evalArgs_plain (Calls.spliced_cons (thn (he.run pins s1 σ H1 _ I1 q1) fun iv s2 ⟨y, H2, I2, ry, q2⟩ =>
    Calls.spliced_cons (thn (hf.run pins s2 σ H2 _ I2 q2) fun fv s3 ⟨z, H3, I3, rz, kvs, k, mx, km, q3⟩ => Calls.spliced_nil ?_))))
  obtain ⟨hd, dm, his, nd⟩ := mx_get I3 mx
  have ev := vv_is km.isR ry
  subst ev
  refine call_meetsIn PySem.F.slot_dict_get dm.typeIs PySem.F.entry_dict_get (PySem.F.args_dict_get_3 _ _ _) (meets_getM X.w a (vvM y) fv hd) ⟨by show X.A.units + 1 + 8 < cLine; omega, k.nk, _, kmv_at I3 km, dm, his, nd, ?_⟩
  rw [at_look]
  refine ⟨(lookM kvs k).getD z, H3, I3.tok _, ?_, q3⟩
  cases hl : lookM kvs k with
  | none => exact rz
  | some v =>
    obtain ⟨e0, me, _, e2⟩ := look_mem hl
    have := mx.val e0 me
    rw [e2] at this
    exact rel_vv this
theorem pe_dsetM (hu : X.A.units + 9 < cLine) (ho : PE X o td) (he : PE X e ty) (hf : PE X f tx) (m : M2 X o "setdefault" apos e f cpos) : PE X (.Call (.Attribute o "setdefault" apos) [e, f] [] cpos) (tDSetM X.w td ty tx) := by
  refine ⟨fun pins s σ H Q I h => ?_⟩
  refine wpAny_Call_method m.base m.few m.line PySem.F.plainAttrs_dict PySem.F.slot_dict_setdefault PySem.F.type_dict_setdefault (thn (ho.run pins s σ H _ I h) fun u s1 ⟨x, H1, I1, rx, a, ex, ⟨kvs0, d⟩, q1⟩ => ?_)
  subst ex
  obtain rfl : u = Value.ref a := rx
  obtain ⟨t1, t2⟩ := mx_is I1 d
  refine ⟨t1, t2, ?_⟩
  rw [m.trees]
  refine Calls.callWith_builtin rfl (Calls.evalArgs_plain (Calls.spliced_cons (thn (he.run pins s1 σ H1 _ I1 q1) fun iv s2 ⟨y, H2, I2, ry, q2⟩ =>
    Calls.spliced_cons (thn (hf.run pins s2 σ H2 _ I2 q2) fun fv s3 ⟨z, H3, I3, rz, kvs, k, mx, km, zr, hl, k1, k2⟩ => Calls.spliced_nil ?_))))
  obtain ⟨hd, dm, his, nd⟩ := mx_get I3 mx
  have ev := vv_is km.isR ry
  subst ev
  have ez := vv_is zr rz
  subst ez
  refine call_meetsIn PySem.F.slot_dict_setdefault dm.typeIs PySem.F.entry_dict_setdefault (PySem.F.args_dict_setdefault_3 _ _ _) (meets_setM X.w a (vvM y) (vvM z) hd) ⟨by show X.A.units + 1 + 8 < cLine; omega, k.nk, _, kmv_at I3 km, dm, his, nd, by rw [List.length_map]; exact sz_of (by omega), fun u hu2 => ?_, fun hn h' dm' sb => ?_⟩
  · rw [at_look] at hu2
    cases hlk : lookM kvs k with
    | none =>
      rw [hlk] at hu2
      cases hu2
    | some v =>
      rw [hlk] at hu2
      have eu : vvM v = u := Option.some.inj hu2
      subst eu
      obtain ⟨e0, me, _, e2⟩ := look_mem hlk
      have vr := mx.val e0 me
      rw [e2] at vr
      exact ⟨v, H3, I3.tok _, rel_vv vr, k1 v hlk⟩
  · rw [at_look] at hn
    have hlk : lookM kvs k = none := by
      cases z0 : lookM kvs k with
      | none => rfl
      | some v =>
        rw [z0] at hn
        cases hn
    have dm2 : DictM X.w h' a ((kvs ++ [(k, y, z)]).map entV) := by
      rw [List.map_append]
      exact dm'
    obtain ⟨ob, _, _, hob, _⟩ := id dm2
    exact ⟨z, _, d_write I3 (by rw [mx.at_]; exact True.intro) sb ⟨ob, hob⟩ (mxO_ok hd dm2), rel_vv zr, k2 hlk⟩
end
end My
set_option maxHeartbeats 4000000
/-! x != y of an instance with an own __eq__ and the __ne__ of object -/
namespace My
open PySem PySem.Spec PyProof.Rows L2
section
variable {P : Program} {w : World} {A : Around} {E : Value → Shared → Prop} {s : Shared} {K : PySem.W.Frag} {x C f : Addr} {L : Addr} {h₀ : Heap} {m : Str → Option Value} {ox : Obj} {od : Option Obj} {b tb : Value}
theorem boundB {M : Model} {name : Str} {id : String} {args : List Value} {Q : Option Value → Shared → Prop} (X : K.In s.heap) (I : PySem.W.InstAt s.heap x ox C od) (hs : PySem.W.findIn K (.ref C) name = some (some (.builtin id))) (hb : bindSpecial (.builtin id) (.ref x) = pure (.builtin id, [.ref x]))
    (h : wpAny M A (call (.builtin id) (.ref x :: args)) (fun v => Q (some v)) E s) : wpAny M A (callSpecialIfBound? (.ref x) name args) Q E s := by
  simp only [callSpecialIfBound?, bindSpecialIfBound?]
  refine wpAny_holding (wpAny_bind (wpAny_bind (wpAny_bind (I.type.here ((PySem.W.looks_findIn X hs).here ?_)))))
  simp only [hb]
  refine wpAny_bind (wpAny_askSetting (wpAny_ite ?_))
  have last : wpAny M A (call (.builtin id) ([.ref x] ++ args) >>= fun v => pure (some v)) Q E s := wpAny_bind (wpAny_mono h (fun v s' q => wpAny_pure q) fun _ _ q => q)
  split
  · exact wpAny_bind (wpAny_pure (wpAny_pure last))
  · exact wpAny_tryCatch (wpAny_bind (wpAny_pure (wpAny_pure last)))
theorem objNe_own {Q : Fin → Shared → Prop} (X : K.In s.heap) (I : PySem.W.InstAt s.heap x ox C od) (hs : PySem.W.findIn K (.ref C) "__eq__" = some (some (.ref f))) (hf : PySem.W.isFn K (.ref f) = true) (hu : A.units < cLine)
    (h : wpAny (model P w) A (call (.ref f) [.ref x, b]) (fun v s' => ∃ k, v = .bool k ∧ Q (.done (.ret (.bool (!k)))) s') E s) : wpAny (model P w) A (Builtin.«object.__ne__» ⟨[.ref x, b], []⟩) Q E s := by
  unfold Builtin.«object.__ne__»
  refine wpAny_bind (m := slotArgs "__ne__" 1 _) (wpAny_pure ?_)
  refine wpAny_bind (wpAny_cRoomFor hu ?_)
  refine wpAny_bind (m := callSpecialIfBound? (.ref x) (Str.ofString "__eq__") [b]) (PySem.W.ifBound_K X I hs hf (wpAny_mono h (fun v s' hv => ?_) fun _ _ e => e))
  obtain ⟨k, rfl, q⟩ := hv
  exact wpAny_bind (m := truthy (.bool k)) (wpAny_truthy_bool (wpAny_pure q))
theorem cmp_ne_K {Q : Value → Shared → Prop} (hu : A.units + 1 < cLine) (F : Fr h₀ L s.heap m) (X₀ : K.In h₀) (I : PySem.W.InstAt s.heap x ox C od) (hb : PySem.W.Looks (model P w) s.heap (typeOf b) tb) (hn : PySem.W.notFirst K C tb = true)
    (hne : PySem.W.findIn K (.ref C) "__ne__" = some (some (.builtin "object.__ne__"))) (hs : PySem.W.findIn K (.ref C) "__eq__" = some (some (.ref f))) (hf : PySem.W.isFn K (.ref f) = true) (ho : PySem.W.subIn K (.ref C) (.type "object") = some true)
    (h : wpAny (model P w) A.in1 (call (.ref f) [.ref x, b]) (fun v s' => ∃ k, v = .bool k ∧ Q (.bool (!k)) s') E s) : wpAny (model P w) A (richCompare .NotEq (.ref x) b) Q E s := by
  have X := X₀.keeps F.keep
  have one : wpAny (model P w) A (tryCompare (.ref x) (cmpInfo .NotEq).2.1 b) (fun r s' => ∃ v, r = some v ∧ Q v s') E s := by
    unfold tryCompare
    refine wpAny_bind (boundB X I hne (PySem.F.slot_object_ne.bind _) ?_)
    refine wpAny_call (codeAny_call_builtin PySem.F.slot_object_ne.plain PySem.F.cmpEntry_ne ?_)
    have chk : ∀ {R : Unit → Shared → Prop} {E' : Value → Shared → Prop}, R () s → wpAny (model P w) A.in1 (checkBuiltinCall "object.__ne__" ⟨[.ref x, b], []⟩) R E' s := fun {R E'} hR => by
      simp only [checkBuiltinCall, PySem.F.cmpKind_ne, PySem.F.cmpSplit_ne]
      have isO : PySem.W.Looks (model P w) s.heap (isInstance (.ref x) (.type "object")) true := I.type.andThen (PySem.W.looks_subIn X ho)
      refine wpAny_bind (isO.here ?_)
      simp only [Bool.not_true, Bool.false_eq_true, if_false]
      have ha : argsOk "object.__ne__" ⟨[.ref x, b], []⟩ := PySem.F.cmpArgs_ne _ _
      cases hsig : Manifest.signature? "object.__ne__" with
      | none => exact wpAny_pure hR
      | some sig =>
        simp only [argsOk, hsig] at ha
        have h2 : Bind.checkArgs "object.__ne__" sig ⟨[.ref x, b], []⟩ = pure () := ha
        show wpAny _ _ (Bind.checkArgs "object.__ne__" sig ⟨[.ref x, b], []⟩) _ _ _
        rw [h2]
        exact wpAny_pure hR
    refine chk ?_
    refine objNe_own X I hs hf (by show A.units + 1 < cLine; exact hu) (wpAny_mono h (fun v s' hv => ?_) fun _ _ e => e)
    obtain ⟨k, rfl, q⟩ := hv
    refine ⟨k, rfl, ?_⟩
    first | exact wpAny_pure ⟨_, rfl, q⟩ | exact wpAny_pure (wpAny_pure ⟨_, rfl, q⟩) | exact ⟨_, rfl, q⟩
  unfold richCompare
  simp only [oneThing_ref]
  refine wpAny_holding (wpAny_bind (wpAny_cRoomFor (by omega) ?_))
  refine wpAny_bind (I.type.here (wpAny_bind (hb.here ?_)))
  split
  · rename_i q
    have e : PySem.W.subIn K tb (.ref C) = some false := by
      rcases Bool.or_eq_true_iff.mp hn with e | e
      · rw [beq_iff_eq.mp e] at q
        simp at q
      · exact beq_iff_eq.mp e
    refine wpAny_bind ((PySem.W.looks_subIn X e).here ?_)
    simp only [Bool.false_eq_true, if_false]
    refine wpAny_bind (wpAny_mono one (fun r s' z => ?_) fun _ _ e => e)
    obtain ⟨v, rfl, hq⟩ := z
    exact wpAny_pure hq
  · refine wpAny_bind (wpAny_pure ?_)
    simp only [Bool.false_eq_true, if_false]
    refine wpAny_bind (wpAny_mono one (fun r s' z => ?_) fun _ _ e => e)
    obtain ⟨v, rfl, hq⟩ := z
    exact wpAny_pure hq
end
section
variable {X : Cx} {CX : CXT} {k : Nat} {C g : Addr} {fd : FuncData} {ps : List Str} {sp : Sp} {E : XK}
/-- x != y: not what the own __eq__ answers -/
def rNeI (K : PySem.W.Frag) (C : Addr) (sp : Sp) (E : XK) : R2 := fun x y H Q => ∃ a dx fs t, x = .ref a ∧ H a = some (.ins C dx fs) ∧ TyX K H y t ∧ PySem.W.notFirst K C t = true ∧ sp [x, y] H (fun v H' => ∃ b, v = .bl b ∧ Q (.bl (!b)) H') E
theorem op_neI (hne : PySem.W.findIn X.K (.ref C) "__ne__" = some (some (.builtin "object.__ne__"))) (hs : PySem.W.findIn X.K (.ref C) "__eq__" = some (some (.ref g))) (hf : PySem.W.isFn X.K (.ref g) = true) (ho : PySem.W.subIn X.K (.ref C) (.type "object") = some true)
    (F : FnOk X.prog X.w X.K X.mg X.base CX k g fd ps sp) (hb : Binds X.K fd ps []) (hr : Room (k + 1) X.A) (hx : Passes CX X E) : OpR X (compareOp .NotEq) (rNeI X.K C sp E) := by
  intro pins s σ H x y v u Q I rx ry h
  obtain ⟨a, dx, fs, t, rfl, ha, ty, hn, q⟩ := h
  cases (show v = Value.ref a from rx)
  obtain ⟨mA, J, _⟩ := ins_get I.hok ha
  obtain ⟨od, J, _⟩ := J.look
  obtain ⟨P, Z, hP, _⟩ := kit_of I ry ty
  obtain ⟨m, hF⟩ := I.fr
  show wpAny _ _ (richCompare .NotEq (.ref a) u) _ _ _
  refine cmp_ne_K (tb := t) (by have := hr.units; omega) hF I.ok.mod.kin J (Z.ty _ _ I.kIn hP) hn hne hs hf ho ?_
  have r2 : Vals [V.ref a, y] [Value.ref a, u] := .cons rfl (.cons ry .nil)
  have hl : ([Value.ref a, u] : List Value).length = ps.length := by
    rw [← F.len _ _ _ _ q]
    rfl
  refine wpAny_call (codeAny_mono (F.run X.A.in1 X.stack s H ⟨[.ref a, u], []⟩ [.ref a, u] [.ref a, y] _ E hr.in1 I.env0.in1 (by simpa using hb _ [.ref a, u] I.kIn (by simpa using hl)) r2 q) fun r s' hq => ?_)
  cases r with
  | error er => exact hx pins σ H s er s' I hq
  | ok fl =>
    cases fl with
    | ret u =>
      obtain ⟨v, H', I3, rv, b, rfl, q3⟩ := I.after hq
      obtain rfl : u = Value.bool b := rv
      exact ⟨b, rfl, .bl (!b), H', I3, rfl, q3⟩
    | next => exact False.elim hq
    | brk => exact False.elim hq
    | cont => exact False.elim hq
end
end My
set_option maxHeartbeats 4000000
namespace K54
open PySem PySem.Spec PyProof.Rows L2 Evl My LamX
/-! the class Record -/
def rcBody : List Stmt := match top 17 with
  | .ClassDef _ _ _ body .. => body
  | _ => []
def rth (i : Nat) : Stmt := rcBody.getD i (.Pass ⟨0, 0, 0, 0⟩)
abbrev rInit : Stmt := rth 0
abbrev rEq : Stmt := rth 1
structure RcC (K : PySem.W.Frag) (C : Addr) : Prop where
  cl : Cls K C
  n1 : NoAttr K C "mark"
  n2 : NoAttr K C "stamp"
  n3 : NoAttr K C "after"
  n4 : NoAttr K C "act"
  n5 : NoAttr K C "first"
/-- a record: its mark, its stamp, what it follows, the act -/
structure Rc where
  ky : List L2.Key
  st : Int
  af : MKey
  act : PyData
def kD : L2.Key → PyData
  | .inl i => .int i
  | .inr x => .str x
def mkD : MKey → PyData
  | .non => .none
  | .tup ks => .tuple (ks.map kD)
def fsR (m a t : V) (st : Int) : List (Str × V) := [("mark", m), ("stamp", .int st), ("after", a), ("act", t), ("first", .non)]
def RecAt (K : PySem.W.Frag) (C : Addr) (H : Hp) (R : Addr) (r : Rc) : Prop := ∃ dx m va vt, H R = some (.ins C dx (fsR (.ref m) va vt r.st)) ∧ H m = some (.tup (r.ky.map kV)) ∧ KmV H va r.af ∧ Dd K H vt r.act
theorem RecAt.ext {K : PySem.W.Frag} {C R : Addr} {H H' : Hp} {r : Rc} (e : Ex H H') (h : RecAt K C H R r) : RecAt K C H' R r := by
  obtain ⟨dx, m, va, vt, h1, h2, h3, h4⟩ := h
  exact ⟨dx, m, va, vt, e _ _ h1, e _ _ h2, h3.ext e, Dd.ext e _ _ h4⟩
theorem dd_keys {K : PySem.W.Frag} {H : Hp} : ∀ ks : List L2.Key, Dds K H (ks.map kV) (ks.map kD)
  | [] => .nil
  | .inl i :: ks => .cons (.int i) (dd_keys ks)
  | .inr x :: ks => .cons (.str x) (dd_keys ks)
theorem dd_tup {K : PySem.W.Frag} {H : Hp} {m : Addr} {ks : List L2.Key} (h : H m = some (.tup (ks.map kV))) : Dd K H (.ref m) (.tuple (ks.map kD)) := .tup (st_of h) (dd_keys ks)
theorem dd_km {K : PySem.W.Frag} {H : Hp} {v : V} {k : MKey} (h : KmV H v k) : Dd K H v (mkD k) := by
  cases v <;> cases k <;> first | cases h | skip
  · exact .non
  · exact dd_tup h
def spRInit (C : Addr) : Sp := fun vs H Q _ => ∃ (R dx : Addr) (m a t f : V) (st : Int), vs = [.ref R, m, .int st, a, t, f] ∧ H R = some (.ins C dx []) ∧ ∀ H', But R H H' → H' R = some (.ins C dx [("mark", m), ("stamp", .int st), ("after", a), ("act", t), ("first", f)]) → Q .non H'
section
variable {P : Program} {w : World} {K : PySem.W.Frag} {mg : Str → Option Value} {base : Heap} {f C D : Addr} {fd : FuncData}
def NR : List Str := ["self", "mark", "stamp", "after", "act", "first"]
theorem scRInit : FnScope NR NR (defScope rInit) := ⟨rfl, rfl, rfl, by decide +kernel, rfl, by decide +kernel, by decide +kernel⟩
theorem ok_rinit (F : Fun K "__init__" "Record.__init__" rInit f fd) (c : RcC K C) : FnOk P w K mg base CX0 1 f fd NR (spRInit C) := by
  refine F.ok scRInit (fun vs H Q E h => ?_) (fun cdv A outer s H vs Q E hr h => ?_)
  · obtain ⟨R, dx, m, a, t, f, st, rfl, _⟩ := h
    rfl
  · obtain ⟨R, dx, m, a, t, f, st, rfl, hR, kQ⟩ := h
    refine ⟨_, pss_cons (ps_fld (pv 0) (pv 1) rfl) (pss_cons (ps_fld (pv 0) (pv 2) rfl) (pss_cons (ps_fld (pv 0) (pv 3) rfl) (pss_cons (ps_fld (pv 0) (pv 4) rfl) (pss_one (ps_fld (pv 0) (pv 5) rfl))))), ?_⟩
    refine ⟨_, rfl, _, rfl, R, C, dx, _, rfl, hR, c.cl, c.n1, by decide, ?_⟩
    refine ⟨_, rfl, _, rfl, R, C, dx, _, rfl, upd_same, c.cl, c.n2, (show (1 : Nat) < 1000 by decide), ?_⟩
    refine ⟨_, rfl, _, rfl, R, C, dx, _, rfl, upd_same, c.cl, c.n3, (show (2 : Nat) < 1000 by decide), ?_⟩
    refine ⟨_, rfl, _, rfl, R, C, dx, _, rfl, upd_same, c.cl, c.n4, (show (3 : Nat) < 1000 by decide), ?_⟩
    refine ⟨_, rfl, _, rfl, R, C, dx, _, rfl, upd_same, c.cl, c.n5, (show (4 : Nat) < 1000 by decide), ?_⟩
    exact kQ _ ((((((But.refl R H).upd).upd).upd).upd).upd) upd_same
end
/-! its == -/
def sh (d : PyData) : Bool := noDict d && SeqAt.shaped d
def mD (r : Rc) : PyData := .tuple (r.ky.map kD)
def rcOk (r : Rc) : Bool := sh (mD r) && sh (mkD r.af) && sh r.act
def headEq (r q : Rc) : Bool := PyData.eqv (mD r) (mD q) && decide (r.st = q.st)
def tailEq (r q : Rc) : Bool := PyData.eqv (mkD r.af) (mkD q.af) && PyData.eqv r.act q.act
def recEq (r q : Rc) : Bool := headEq r q && tailEq r q
theorem rc_sh {r : Rc} (h : rcOk r = true) : (noDict (mD r) = true ∧ SeqAt.shaped (mD r) = true) ∧ (noDict (mkD r.af) = true ∧ SeqAt.shaped (mkD r.af) = true) ∧ (noDict r.act = true ∧ SeqAt.shaped r.act = true) := by
  unfold rcOk sh at h
  rw [Bool.and_eq_true, Bool.and_eq_true, Bool.and_eq_true, Bool.and_eq_true, Bool.and_eq_true] at h
  exact ⟨h.1.1, h.1.2, h.2⟩
section
variable {K : PySem.W.Frag} {C R J : Addr} {σ : L2.St} {H : Hp} {r q : Rc} {ta tb : TE} {d : PyData}
theorem rec_flds (h : RecAt K C H R r) (c : RcC K C) (ha : Ev ta σ H (.ref R)) : EvD K (tFld K ta "mark") σ H (mD r) ∧ Ev (tFld K ta "stamp") σ H (.int r.st) ∧ EvD K (tFld K ta "after") σ H (mkD r.af) ∧ EvD K (tFld K ta "act") σ H r.act ∧ EvD K (tFld K ta "first") σ H .none := by
  obtain ⟨dx, m, va, vt, h1, h2, h3, h4⟩ := h
  refine ⟨ed_of (v := .ref m) (fun H1 e Q q => ha H1 e _ fun H2 e2 => ⟨R, C, dx, _, _, rfl, (e.trans e2) _ _ h1, c.cl, c.n1, rfl, q H2 e2⟩) (dd_tup h2), fun H1 e Q q => ha H1 e _ fun H2 e2 => ⟨R, C, dx, _, _, rfl, (e.trans e2) _ _ h1, c.cl, c.n2, rfl, q H2 e2⟩,
    ed_of (v := va) (fun H1 e Q q => ha H1 e _ fun H2 e2 => ⟨R, C, dx, _, _, rfl, (e.trans e2) _ _ h1, c.cl, c.n3, rfl, q H2 e2⟩) (dd_km h3), ed_of (v := vt) (fun H1 e Q q => ha H1 e _ fun H2 e2 => ⟨R, C, dx, _, _, rfl, (e.trans e2) _ _ h1, c.cl, c.n4, rfl, q H2 e2⟩) h4,
    ed_of (v := .non) (fun H1 e Q q => ha H1 e _ fun H2 e2 => ⟨R, C, dx, _, _, rfl, (e.trans e2) _ _ h1, c.cl, c.n5, rfl, q H2 e2⟩) .non⟩
theorem ev_isRec (c : RcC K C) (I : LvI K C) (h : RecAt K C H R r) (ha : Ev ta σ H (.ref R)) : Ev (tCB (rIsi K) (tCons ta (tCons (tC (.ref C)) tNil))) σ H (.bl true) := fun H1 e Q q => ha H1 e _ fun H2 e2 => by
  obtain ⟨dx, m, va, vt, h1, _⟩ := h.ext (e.trans e2)
  exact ⟨.ref R, .ref C, .ref C, .ref C, true, rfl, .own C, .base (.ins h1 c.cl I.ha I.hn I.htk I.hm), I.kC, q H2 e2⟩
end
def spREq (K : PySem.W.Frag) (C : Addr) : Sp := fun vs H Q _ => ∃ (R : Addr) (y : V) (r : Rc), vs = [.ref R, y] ∧ RecAt K C H R r ∧ rcOk r = true ∧
  ((∃ (J : Addr) (q : Rc), y = .ref J ∧ RecAt K C H J q ∧ rcOk q = true ∧ ∀ H', Ex H H' → Q (.bl (recEq r q)) H') ∨ (∃ d, Dd K H y d ∧ ∀ H', Ex H H' → Q (.bl false) H'))
section
variable {P : Program} {w : World} {K : PySem.W.Frag} {mg : Str → Option Value} {base : Heap} {f C D : Addr} {fd : FuncData}
theorem scREq : FnScope ["self", "other"] ["self", "other"] (defScope rEq) := ⟨rfl, rfl, rfl, by decide +kernel, rfl, by decide +kernel, by decide +kernel⟩
theorem ok_req (F : Fun K "__eq__" "Record.__eq__" rEq f fd) (T : Txt mg) (c : RcC K C) (I : LvI K C) (gC : mg "Record" = some (.ref C)) : FnOk P w K mg base CX0 1 f fd ["self", "other"] (spREq K C) := by
  refine F.ok scREq (fun vs H Q E h => ?_) (fun cdv A outer s H vs Q E hr h => ?_)
  · obtain ⟨R, y, r, rfl, _⟩ := h
    rfl
  · obtain ⟨R, y, r, rfl, hR, ok, alt⟩ := h
    refine ⟨_, pss_cons (ps_if (PW.pt (pw_or (pt_not (pt_val (pe_callB call_isi (by rfl) T.isn (by decide +kernel) (pa_cons (pv 1) (pa_cons (pe_glob (v := .ref C) rfl gC rfl) pa_nil))))) (pw_or (pt_cmpR (op_neD hr.units) (pe_fld (pv 0) rfl) (pe_fld (pv 1) rfl) (nomark _)) (pw_or1 (pt_cmpR op_ne (pe_fld (pv 0) rfl) (pe_fld (pv 1) rfl) (nomark _)))))) (pss_one (ps_ret pe_bl)) pss_nil)
      (pss_one (ps_ret (pe_and (pe_cmpR (op_eqD hr.units) (pe_fld (pv 0) rfl) (pe_fld (pv 1) rfl) (nomark _)) (pe_and (pe_cmpR (op_eqD hr.units) (pe_fld (pv 0) rfl) (pe_fld (pv 1) rfl) (nomark _)) (pe_one (pe_cmpR (op_eqD hr.units) (pe_fld (pv 0) rfl) (pe_fld (pv 1) rfl) (nomark _))))))), ?_⟩
    obtain ⟨⟨a1, a2⟩, ⟨b1, b2⟩, ⟨c1, c2⟩⟩ := rc_sh ok
    rcases alt with ⟨J, q, rfl, hJ, ok2, kQ⟩ | ⟨d, g, kQ⟩
    · obtain ⟨⟨a3, a4⟩, ⟨b3, b4⟩, ⟨c3, c4⟩⟩ := rc_sh ok2
      have fl := fun {H1 : Hp} (e : Ex H H1) => (⟨rec_flds (hR.ext e) c (ev_var (σ := start ["self", "other"] [.ref R, .ref J]) (i := 0) rfl), rec_flds (hJ.ext e) c (ev_var (σ := start ["self", "other"] [.ref R, .ref J]) (i := 1) rfl)⟩ : _ ∧ _)
      obtain ⟨⟨m1, s1, _⟩, m2, s2, _⟩ := fl (Ex.refl H)
      have test : (!PyData.eqv (mD r) (mD q) || !decide (r.st = q.st)) = !headEq r q := by
        unfold headEq
        cases PyData.eqv (mD r) (mD q) <;> rfl
      refine q_when (b := !headEq r q) (et_is (et_or (a := false) (b := !headEq r q) (et_is (et_not (et_B (ev_isRec c I hJ (ev_var rfl)))) rfl) fun _ => et_is (et_or (a := !PyData.eqv (mD r) (mD q)) (b := !decide (r.st = q.st)) (et_test (ed_neD m1 m2 a1 a3 a2 a4)) fun _ => et_is (et_test (ev_op s1 s2 (rv_ne rfl))) (by simp)) test) rfl) (fun hb H1 e1 => ?_) (fun hb H1 e1 => ?_)
      · have z : recEq r q = false := by
          unfold recEq
          cases hh : headEq r q
          · rfl
          · rw [hh] at hb
            cases hb
        rw [z] at kQ
        exact s_ret (v := .bl false) ev_c fun H2 e2 => kQ H2 (e1.trans e2)
      · have z : recEq r q = (PyData.eqv (mkD r.af) (mkD q.af) && (PyData.eqv r.act q.act && true)) := by
          unfold recEq tailEq
          cases hh : headEq r q
          · rw [hh] at hb
            cases hb
          · rw [Bool.true_and, Bool.and_true]
        rw [z] at kQ
        obtain ⟨⟨_, _, f1, t1, n1⟩, _, _, f2, t2, n2⟩ := fl e1
        have fin := ev_andV (σ := start ["self", "other"] [.ref R, .ref J]) (H := H1) (ed_eqD f1 f2 b1 b3 b2 b4) fun _ => ev_andV (ed_eqD t1 t2 c1 c3 c2 c4) fun _ => ed_eqD n1 n2 rfl rfl (by decide +kernel) (by decide +kernel)
        exact s_ret (v := .bl (PyData.eqv (mkD r.af) (mkD q.af) && (PyData.eqv r.act q.act && true))) fin fun H2 e2 => kQ H2 (e1.trans e2)
    · refine q_when (b := true || false) (et_or (a := true) (b := false) (et_is (et_not (et_B (ev_noLv I (ed_var rfl g)))) rfl) fun z => by cases z) (fun hb H1 e1 => ?_) fun hb => by cases hb
      exact s_ret (v := .bl false) ev_c fun H2 e2 => kQ H2 (e1.trans e2)
end
end K54
set_option maxHeartbeats 4000000
/-! d.setdefault(k, x), the keys of d tuples of ints and texts -/
namespace My
open PySem PySem.Spec PyProof.Rows L2 Evl
def tDSetT (td ty tx : TE) : TE := fun σ H Q => td σ H fun x H1 => ∃ a, x = .ref a ∧ IsD H1 a ∧ ty σ H1 fun y H2 => tx σ H2 fun z H3 => ∃ (kvs : List (List L2.Key × V)) (k : List L2.Key) (b : Addr), H3 a = some (.dT kvs) ∧ y = .ref b ∧ H3 b = some (.tup (k.map kV)) ∧ kvs.length < 1000 ∧
  (∀ v, valV kvs k = some v → Q v H3) ∧ (valV kvs k = none → Q z (upd H3 a (.dT (putK kvs k z))))
section
variable {X : Cx} {o e f : Expr} {td ty tx : TE} {apos cpos : Pos}
theorem pe_dsetT (hu : X.A.units + 1 < cLine) (ho : PE X o td) (he : PE X e ty) (hf : PE X f tx) (m : M2 X o "setdefault" apos e f cpos) : PE X (.Call (.Attribute o "setdefault" apos) [e, f] [] cpos) (tDSetT td ty tx) := by
  refine ⟨fun pins s σ H Q I h => ?_⟩
  refine wpAny_Call_method m.base m.few m.line PySem.F.plainAttrs_dict PySem.F.slot_dict_setdefault PySem.F.type_dict_setdefault (thn (ho.run pins s σ H _ I h) fun u s1 ⟨x, H1, I1, rx, a, ex, d, q1⟩ => ?_)
  subst ex
  obtain rfl : u = Value.ref a := rx
  obtain ⟨t1, t2, _⟩ := isD_at I1 d
  refine ⟨t1, t2, ?_⟩
  rw [m.trees]
  refine Calls.callWith_builtin rfl (Calls.evalArgs_plain (Calls.spliced_cons (thn (he.run pins s1 σ H1 _ I1 q1) fun iv s2 ⟨y, H2, I2, ry, q2⟩ =>
    Calls.spliced_cons (thn (hf.run pins s2 σ H2 _ I2 q2) fun fv s3 ⟨z, H3, I3, rz, kvs, k, b, ha, ey, hb, hl, k1, k2⟩ => Calls.spliced_nil ?_))))
  subst ey
  obtain rfl : iv = Value.ref b := ry
  obtain ⟨_, hd, xs, rel, dd⟩ := dt_of I3.hok ha
  have hz : xs.length ≤ sizeLine := by
    rw [← Paired.length rel]
    exact sz_of (by omega)
  refine call_setdefault_heap (hsz := hz) (tupleKind_room_in1 hu) (key_of I3.hok hb) hd dd (fun p hp => ?_) fun hn h' dd' hs => ?_
  · have r := rel.val k
    rw [hp] at r
    cases ev : valV kvs k with
    | none =>
      rw [ev] at r
      exact (show False from r).elim
    | some v0 =>
      rw [ev] at r
      exact ⟨v0, H3, I3.tok _, r, k1 v0 ev⟩
  · have r := rel.val k
    rw [hn] at r
    have ev : valV kvs k = none := by
      cases ev : valV kvs k with
      | none => rfl
      | some v0 =>
        rw [ev] at r
        exact (show False from r).elim
    obtain ⟨q, es, ep, hq, h2, h3, h4, _, h5⟩ := dd'
    have hl2 : (putK kvs k z).length ≤ sizeLine := sz_of (by have := length_putK kvs k z; omega)
    have I4 : Inv X pins σ (upd H3 a (.dT (putK kvs k z))) { s3 with heap := h', toks := s3.toks + (tupleKind (mixKind X.prog X.w)).draws k } :=
      d_write I3 (by rw [ha]; exact True.intro) hs ⟨q, hq⟩ ⟨hl2, hd, _, (rel.put k hb rz).keeps fun c ys ec => by rw [upd_ne (ne_of ec ha (fun z => nomatch z))]; exact ec, q, es, ep, hq, h2, h3, h4, h5⟩
    exact ⟨z, _, I4, rz, k2 ev⟩
end
end My
set_option maxHeartbeats 4000000
namespace K54
open PySem PySem.Spec PyProof.Rows L2 Evl My LamX
/-! == and != of records -/
structure RqL (P : Program) (w : World) (K : PySem.W.Frag) (mg : Str → Option Value) (base : Heap) (C : Addr) : Prop where
  ex : ∃ (g : Addr) (fd : FuncData), PySem.W.findIn K (.ref C) "__eq__" = some (some (.ref g)) ∧ PySem.W.isFn K (.ref g) = true ∧ FnOk P w K mg base CX0 1 g fd ["self", "other"] (spREq K C) ∧ Binds K fd ["self", "other"] []
  ne : PySem.W.findIn K (.ref C) "__ne__" = some (some (.builtin "object.__ne__"))
  ob : PySem.W.subIn K (.ref C) (.type "object") = some true
  i : LvI K C
  c : RcC K C
  nC : PySem.W.notFirst K C (.ref C) = true
theorem op_eqR {X : Cx} {C : Addr} (M : RqL X.prog X.w X.K X.mg X.base C) (hr : Room 1 X.A) : OpR X (compareOp .Eq) (rOwnI X.K C (spREq X.K C) E0) := by
  obtain ⟨g, fd, h1, h2, F, b⟩ := M.ex
  exact op_ownI (fun _ _ => rfl) h1 h2 F b hr passN
theorem op_neR {X : Cx} {C : Addr} (M : RqL X.prog X.w X.K X.mg X.base C) (hr : Room 2 X.A) : OpR X (compareOp .NotEq) (rNeI X.K C (spREq X.K C) E0) := by
  obtain ⟨g, fd, h1, h2, F, b⟩ := M.ex
  exact op_neI M.ne h1 h2 M.ob F b hr passN
theorem recEq_refl {r : Rc} (h : rcOk r = true) : recEq r r = true := by
  obtain ⟨⟨_, a⟩, ⟨_, b⟩, ⟨_, c⟩⟩ := rc_sh h
  unfold recEq headEq tailEq
  rw [PySem.SeqAt.eqv_refl _ (PySem.SeqAt.canLay_of_shaped a), PySem.SeqAt.eqv_refl _ (PySem.SeqAt.canLay_of_shaped b), PySem.SeqAt.eqv_refl _ (PySem.SeqAt.canLay_of_shaped c), decide_eq_true rfl]
  rfl
section
variable {P : Program} {w : World} {K : PySem.W.Frag} {mg : Str → Option Value} {base : Heap} {C R J : Addr} {H : Hp} {r q : Rc} {Q : VK} {d : PyData} {v : V}
theorem ne_rr (M : RqL P w K mg base C) (hR : RecAt K C H R r) (hJ : RecAt K C H J q) (o1 : rcOk r = true) (o2 : rcOk q = true) (k : ∀ H', Ex H H' → Q (.bl (!recEq r q)) H') : rNeI K C (spREq K C) E0 (.ref R) (.ref J) H Q := by
  obtain ⟨dx, m, va, vt, h1, _⟩ := id hR
  obtain ⟨dx2, m2, va2, vt2, g1, _⟩ := id hJ
  exact ⟨R, dx, _, .ref C, rfl, h1, .base (.ins g1 M.c.cl M.i.ha M.i.hn M.i.htk M.i.hm), M.nC, R, .ref J, r, rfl, hR, o1, .inl ⟨J, q, rfl, hJ, o2, fun H' e => ⟨_, rfl, k H' e⟩⟩⟩
theorem eq_rr (M : RqL P w K mg base C) (hR : RecAt K C H R r) (hJ : RecAt K C H J q) (o1 : rcOk r = true) (o2 : rcOk q = true) (k : ∀ H', Ex H H' → Q (.bl (recEq r q)) H') : rOwnI K C (spREq K C) E0 (.ref R) (.ref J) H Q := by
  obtain ⟨dx, m, va, vt, h1, _⟩ := id hR
  obtain ⟨dx2, m2, va2, vt2, g1, _⟩ := id hJ
  exact ⟨R, dx, _, .ref C, rfl, h1, .base (.ins g1 M.c.cl M.i.ha M.i.hn M.i.htk M.i.hm), M.nC, R, .ref J, r, rfl, hR, o1, .inl ⟨J, q, rfl, hJ, o2, k⟩⟩
theorem eq_rd (M : RqL P w K mg base C) (hR : RecAt K C H R r) (g : Dd K H v d) (o1 : rcOk r = true) (k : ∀ H', Ex H H' → Q (.bl false) H') : rOwnI K C (spREq K C) E0 (.ref R) v H Q := by
  obtain ⟨dx, m, va, vt, h1, _⟩ := id hR
  exact ⟨R, dx, _, .type (tyD d), rfl, h1, g.ty, M.i.nT d, R, v, r, rfl, hR, o1, .inr ⟨d, g, k⟩⟩
end
/-! records by their marks -/
def addA (acc : List Addr) (a : Addr) : List Addr := if a ∈ acc then acc else acc ++ [a]
def dedA (as : List Addr) : List Addr := as.foldl addA []
def kvA (rec : Addr → Rc) (as : List Addr) : List (List L2.Key × V) := as.map fun a => ((rec a).ky, .ref a)
structure Recs (K : PySem.W.Frag) (C : Addr) (H : Hp) (rec : Addr → Rc) (as : List Addr) : Prop where
  at_ : ∀ a ∈ as, RecAt K C H a (rec a)
  ok : ∀ a ∈ as, rcOk (rec a) = true
  inj : ∀ a ∈ as, ∀ b ∈ as, (rec a).ky = (rec b).ky → a = b
theorem Recs.ext {K : PySem.W.Frag} {C : Addr} {H H' : Hp} {rec : Addr → Rc} {as : List Addr} (e : Ex H H') (h : Recs K C H rec as) : Recs K C H' rec as := ⟨fun a m => (h.at_ a m).ext e, h.ok, h.inj⟩
theorem mem_addA {acc : List Addr} {a b : Addr} : b ∈ addA acc a ↔ b ∈ acc ∨ b = a := by
  unfold addA
  split
  · next h => exact ⟨.inl, fun z => z.elim id fun e => e ▸ h⟩
  · rw [List.mem_append, List.mem_singleton]
theorem nd_addA {acc : List Addr} {a : Addr} (h : acc.Nodup) : (addA acc a).Nodup := by
  unfold addA
  split
  · exact h
  · next n => exact List.nodup_append.mpr ⟨h, by simp, fun x hx y hy e => n (by rw [← List.mem_singleton.mp hy, ← e]; exact hx)⟩
theorem fold_add : ∀ (as acc : List Addr), acc.Nodup → (as.foldl addA acc).Nodup ∧ ∀ b, b ∈ as.foldl addA acc ↔ b ∈ acc ∨ b ∈ as
  | [], acc, h => ⟨h, fun b => ⟨.inl, fun z => z.elim id fun m => by cases m⟩⟩
  | a :: as, acc, h => by
    obtain ⟨h1, h2⟩ := fold_add as (addA acc a) (nd_addA h)
    refine ⟨h1, fun b => ?_⟩
    show b ∈ as.foldl addA (addA acc a) ↔ _
    rw [h2, mem_addA, List.mem_cons]
    constructor
    · rintro ((z | z) | z)
      · exact .inl z
      · exact .inr (.inl z)
      · exact .inr (.inr z)
    · rintro (z | z | z)
      · exact .inl (.inl z)
      · exact .inl (.inr z)
      · exact .inr z
theorem ded_nd (as : List Addr) : (dedA as).Nodup := (fold_add as [] List.nodup_nil).1
theorem mem_ded {as : List Addr} {b : Addr} : b ∈ dedA as ↔ b ∈ as := by
  unfold dedA
  rw [(fold_add as [] List.nodup_nil).2]
  exact ⟨fun z => z.elim (fun m => by cases m) id, .inr⟩
theorem ded_len : ∀ (as acc : List Addr), (as.foldl addA acc).length ≤ acc.length + as.length
  | [], acc => Nat.le_refl _
  | a :: as, acc => by
    have h := ded_len as (addA acc a)
    have h2 : (addA acc a).length ≤ acc.length + 1 := by
      unfold addA
      split
      · exact Nat.le_succ _
      · rw [List.length_append]
        exact Nat.le_refl _
    show (as.foldl addA (addA acc a)).length ≤ _
    rw [List.length_cons]
    omega
theorem ded_take {as : List Addr} {i : Nat} {a : Addr} (h : as[i]? = some a) : dedA (as.take (i + 1)) = addA (dedA (as.take i)) a := by
  unfold dedA
  rw [List.take_add_one, h]
  show (as.take i ++ [a]).foldl addA [] = _
  rw [List.foldl_append]
  rfl
theorem kvA_get {rec : Addr → Rc} : ∀ {as : List Addr}, (∀ a ∈ as, ∀ b ∈ as, (rec a).ky = (rec b).ky → a = b) → ∀ {a : Addr}, a ∈ as → valV (kvA rec as) (rec a).ky = some (.ref a)
  | [], _, _, m => by cases m
  | b :: as, inj, a, m => by
    by_cases e : (rec b).ky = (rec a).ky
    · have ab := inj b (List.mem_cons_self ..) a m e
      subst ab
      exact valV_pos (by exact rfl)
    · have m2 : a ∈ as := by
        rcases List.mem_cons.mp m with rfl | m
        · exact absurd rfl e
        · exact m
      have ih := kvA_get (rec := rec) (as := as) (fun x hx y hy => inj x (List.mem_cons_of_mem _ hx) y (List.mem_cons_of_mem _ hy)) m2
      show valV (((rec b).ky, V.ref b) :: kvA rec as) _ = _
      rw [valV_neg e]
      exact ih
theorem kvA_no {rec : Addr → Rc} {k : List L2.Key} : ∀ {as : List Addr}, (∀ a ∈ as, (rec a).ky ≠ k) → valV (kvA rec as) k = none
  | [], _ => rfl
  | b :: as, h => by
    show valV (((rec b).ky, V.ref b) :: kvA rec as) _ = _
    rw [valV_neg (h b (List.mem_cons_self ..))]
    exact kvA_no fun a m => h a (List.mem_cons_of_mem _ m)
def spByMark (K : PySem.W.Frag) (C : Addr) (rec : Addr → Rc) : Sp := fun vs H Q _ => ∃ (L : Addr) (as : List Addr), vs = [.ref L] ∧ SqL K H L (as.map V.ref) ∧ Recs K C H rec as ∧ as.length ≤ 900 ∧ ∀ D H', H D = none → Ex H H' → H' D = some (.dT (kvA rec (dedA as))) → Q (.ref D) H'
abbrev sByMark : Stmt := top 18
section
variable {P : Program} {w : World} {K : PySem.W.Frag} {mg : Str → Option Value} {base : Heap} {f C D : Addr} {fd : FuncData}
theorem scByMark : FnScope ["records", "found", "record"] ["records"] (defScope sByMark) := ⟨rfl, rfl, rfl, by decide +kernel, rfl, by decide +kernel, by decide +kernel⟩
theorem ok_bymark {rec : Addr → Rc} (F : Fun K "records_by_mark" "records_by_mark" sByMark f fd) (M : RqL P w K mg base C) (BR : InvE P w K mg base "BadRecords" D) : FnOk P w K mg base (L2.CX P w) 3 f fd ["records"] (spByMark K C rec) := by
  refine F.okX scByMark (fun vs H Q E h => ?_) (fun cdv A outer s H vs Q E hr h => ?_)
  · obtain ⟨L, as, rfl, _⟩ := h
    rfl
  · obtain ⟨L, as, rfl, hL, rs, len, kQ⟩ := h
    have hu := hu_of hr
    have hr2 : Room 2 _ := hr.mono (by decide)
    refine ⟨_, pss_cons (ps_set (i := 1) scByMark.nd rfl (Or.inl rfl) pe_dnewT)
      (pss_cons (ps_for PassesOwn.leaving rfl (pi_list (pv 0)) (pg_name (i := 2) scByMark.nd rfl (Or.inl rfl))
        (pss_one (ps_if (pt_cmpR (op_neR M hr2) (pe_dsetT hu (pv 1) (pe_fld (pv 2) rfl) (pv 2) (by exact ⟨rfl, rfl, rfl, rfl⟩)) (pv 2) (nomark _)) (pss_one (ps_raise rfl (takes_of rfl rfl rfl rfl) (pmk_invE BR hr2 rfl (pe_fld (pv 2) rfl)))) pss_nil)))
      (pss_one (ps_ret (pv 1)))), ?_⟩
    intro D nD
    have LD : ∀ {H'}, Ex H H' → SqL K H' L (as.map V.ref) := fun e => ex_l e hL
    refine ⟨_, rfl, L, rfl, ⟨_, LD (Ex.new nD)⟩, for_list (xs := as.map V.ref) (fun i σ' H' => (∃ o : Option V, σ' = [some (.ref L), some (.ref D), o]) ∧ Ex H H' ∧ H' D = some (.dT (kvA rec (dedA (as.take i))))) ?_ ?_ ?_ ?_⟩
    · exact ⟨⟨_, rfl⟩, Ex.new nD, upd_same⟩
    · rintro i σ' H' _ ⟨_, e, _⟩
      exact LD e
    · rintro i x σ' H' hx ⟨⟨o, rfl⟩, e, hD⟩
      obtain ⟨a, ha, rfl⟩ : ∃ a, as[i]? = some a ∧ V.ref a = x := by
        rw [List.getElem?_map] at hx
        cases hz : as[i]? with
        | none =>
          rw [hz] at hx
          cases hx
        | some s =>
          rw [hz] at hx
          exact ⟨s, rfl, Option.some.inj hx⟩
      have ma := List.mem_of_getElem? ha
      have rs' := rs.ext e
      obtain ⟨dx, m, va, vt, h1, h2, h3, h4⟩ := id (rs'.at_ a ma)
      have inj2 : ∀ x ∈ dedA (as.take i), ∀ y ∈ dedA (as.take i), (rec x).ky = (rec y).ky → x = y := fun x hx y hy => rs.inj x (List.mem_of_mem_take (mem_ded.mp hx)) y (List.mem_of_mem_take (mem_ded.mp hy))
      have lz : (kvA rec (dedA (as.take i))).length < 1000 := by
        unfold kvA
        rw [List.length_map]
        have := ded_len (as.take i) []
        have z : (dedA (as.take i)).length ≤ (as.take i).length := by
          unfold dedA
          simpa using this
        rw [List.length_take] at z
        omega
      refine ⟨_, rfl, D, rfl, .inr ⟨_, .inl hD⟩, _, rfl, a, C, dx, _, .ref m, rfl, h1, M.c.cl, M.c.n1, rfl, _, rfl, _, _, m, hD, rfl, h2, lz, fun v hv => ?_, fun hn => ?_⟩
      · have mem : a ∈ dedA (as.take i) := by
          by_cases z : a ∈ dedA (as.take i)
          · exact z
          · rw [kvA_no fun x hx e2 => z (by rw [← rs.inj x (List.mem_of_mem_take (mem_ded.mp hx)) a ma e2]; exact hx)] at hv
            cases hv
        rw [kvA_get inj2 mem] at hv
        cases hv
        refine ⟨_, rfl, ne_rr M (rs'.at_ a ma) (rs'.at_ a ma) (rs.ok a ma) (rs.ok a ma) fun H3 e3 => ⟨false, by rw [recEq_refl (rs.ok a ma)]; rfl, ?_⟩⟩
        refine ⟨⟨_, rfl⟩, e.trans e3, ?_⟩
        rw [ded_take ha]
        unfold addA
        rw [if_pos mem]
        exact e3 _ _ hD
      · have no : a ∉ dedA (as.take i) := fun z => by
          rw [kvA_get inj2 z] at hn
          cases hn
        have nDa : a ≠ D := fun z => by
          rw [z, hD] at h1
          cases h1
        have eD : Ex H (upd H' D (.dT (putK (kvA rec (dedA (as.take i))) (rec a).ky (.ref a)))) := fun b u hb => by
          rw [upd_ne (ne_of_none hb nD)]
          exact e _ _ hb
        have ra : RecAt K C (upd H' D (.dT (putK (kvA rec (dedA (as.take i))) (rec a).ky (.ref a)))) a (rec a) := (rs.at_ a ma).ext eD
        refine ⟨_, rfl, ne_rr M ra ra (rs.ok a ma) (rs.ok a ma) fun H3 e3 => ⟨false, by rw [recEq_refl (rs.ok a ma)]; rfl, ?_⟩⟩
        refine ⟨⟨_, rfl⟩, eD.trans e3, e3 _ _ ?_⟩
        rw [upd_same, ded_take ha, putK_new _ hn]
        unfold addA kvA
        rw [if_neg no, List.map_append]
        rfl
    · rintro σ' H' ⟨⟨o, rfl⟩, e, hD⟩
      refine ⟨_, rfl, kQ D H' nD e ?_⟩
      rw [List.length_map, List.take_length] at hD
      exact hD
end
end K54
set_option maxHeartbeats 4000000
namespace K54
open PySem PySem.Spec PyProof.Rows L2 Evl My LamX
abbrev sFollows : Stmt := top 19
abbrev aboveF : List Str → (Str → List Str) → Str → Str → PyData := fun _ bl a b => .bool (!decide (a = b) && decide (b ∈ bl a))
/-- what a record follows is there, at a level below -/
def FolOk (ns : List Str) (bl : Str → List Str) (kvs : List (List L2.Key × V)) (r : Rc) : Prop := r.af = .non ∨ ∃ (ks k1 k2 : List L2.Key) (a b : Str), r.af = .tup ks ∧ ks = .inr b :: k2 ∧ r.ky = .inr a :: k1 ∧ (valV kvs ks).isSome = true ∧ a ∈ ns ∧ b ∈ ns ∧ a ≠ b ∧ b ∈ bl a
def spFol (K : PySem.W.Frag) (CL C : Addr) : Sp := fun vs H Q _ => ∃ (J R D : Addr) (r : Rc) (kvs : List (List L2.Key × V)) (ns : List Str) (bl : Str → List Str), vs = [.ref J, .ref R, .ref D] ∧ LvAt CL H J ns bl ∧ LvOk ns bl ∧ RecAt K C H R r ∧ Rd H D (.dT kvs) ∧ FolOk ns bl kvs r ∧ ∀ H', Ex H H' → Q (.bl true) H'
theorem rd_ext {H H' : Hp} {D : Addr} {u : HO} (e : Ex H H') (h : Rd H D u) : Rd H' D u := h.elim (fun z => .inl (e _ _ z)) fun ⟨o, z⟩ => .inr ⟨o, e _ _ z⟩
theorem has_str {ns : List Str} {a : Str} (h : a ∈ ns) : hasD ns (.str a) = true := by
  unfold hasD
  exact decide_eq_true h
section
variable {P : Program} {w : World} {K : PySem.W.Frag} {mg : Str → Option Value} {base : Heap} {f CL C D1 : Addr} {fd : FuncData}
theorem scFol : FnScope ["levels", "record", "found"] ["levels", "record", "found"] (defScope sFollows) := ⟨rfl, rfl, rfl, by decide +kernel, rfl, by decide +kernel, by decide +kernel⟩
theorem ok_fol (F : Fun K "follows_well" "follows_well" sFollows f fd) (c : RcC K C) (cl : LvC K CL) (AB : MX P w K mg base CL "above" ["self", "one", "other"] 4 (sp2 K CL D1 aboveF)) : FnOk P w K mg base (L2.CX P w) 5 f fd ["levels", "record", "found"] (spFol K CL C) := by
  refine F.okX scFol (fun vs H Q E h => ?_) (fun cdv A outer s H vs Q E hr h => ?_)
  · obtain ⟨J, R, D, r, kvs, ns, bl, rfl, _⟩ := h
    rfl
  · obtain ⟨J, R, D, r, kvs, ns, bl, rfl, lv, ok, hR, hD, fo, kQ⟩ := h
    have hu := hu_of hr
    have hr4 : Room 4 _ := hr
    refine ⟨_, pss_cons (ps_if (pt_cmpR op_isN (pe_fld (pv 1) rfl) pe_non (nomark _)) (pss_one (ps_ret pe_bl)) pss_nil)
      (pss_one (ps_ret (pe_and (pe_cmp (pc_din hu (pe_fld (pv 1) rfl) (pv 2))) (pe_one (pe_mx AB cl.cl hr4 ownPass (pv 0) (pa_cons (pe_ix ix_tup (pe_fld (pv 1) rfl) pe_int (fun _ _ => rfl)) (pa_cons (pe_ix ix_tup (pe_fld (pv 1) rfl) pe_int (fun _ _ => rfl)) pa_nil))))))), ?_⟩
    obtain ⟨dx, m, va, vt, h1, h2, h3, h4⟩ := id hR
    have fA : ∀ {H1 : Hp}, Ex H H1 → Ev (tFld K (tVar 1) "after") (start ["levels", "record", "found"] [.ref J, .ref R, .ref D]) H1 va := fun e H2 e2 Q q => ⟨_, rfl, R, C, dx, _, _, rfl, (e.trans e2) _ _ h1, c.cl, c.n3, rfl, q H2 (Ex.refl _)⟩
    have fM : ∀ {H1 : Hp}, Ex H H1 → Ev (tFld K (tVar 1) "mark") (start ["levels", "record", "found"] [.ref J, .ref R, .ref D]) H1 (.ref m) := fun e H2 e2 Q q => ⟨_, rfl, R, C, dx, _, _, rfl, (e.trans e2) _ _ h1, c.cl, c.n1, rfl, q H2 (Ex.refl _)⟩
    have isN : EvT (tTest (tOp (fun x y H Q => y = .non ∧ Q (.bl (decide (x = .non))) H) (tFld K (tVar 1) "after") (tC .non))) (start ["levels", "record", "found"] [.ref J, .ref R, .ref D]) H (decide (va = .non)) := et_test fun H1 e Q q => fA (Ex.refl H) H1 e _ fun H2 e2 => ⟨rfl, q H2 e2⟩
    rcases fo with fo | ⟨ks, k1, k2, a, b, fo, hks, hky, hin, ha, hb, ne, lo⟩
    · rw [fo] at h3
      have z : va = .non := by
        cases va <;> first | rfl | cases h3
      subst z
      exact q_when (b := true) isN (fun _ H1 e1 => s_ret (v := .bl true) ev_c fun H2 e2 => kQ H2 (e1.trans e2)) fun hb => by cases hb
    · rw [fo] at h3
      obtain ⟨va', rfl⟩ : ∃ x, va = .ref x := by
        cases va <;> first | exact ⟨_, rfl⟩ | cases h3
      refine q_when (b := false) (et_is isN (decide_eq_false (by intro z; cases z))) (fun hb => by cases hb) fun _ H1 e1 => ?_
      have h3' : H va' = some (.tup (ks.map kV)) := h3
      have inn : Ev (tDIn (tFld K (tVar 1) "after") (tVar 2)) (start ["levels", "record", "found"] [.ref J, .ref R, .ref D]) H1 (.bl true) := fun H2 e2 Q q => fA e1 H2 e2 _ fun H3 e3 => ⟨_, rfl, D, _, rfl, .inr ⟨kvs, ks, va', rd_ext ((e1.trans e2).trans e3) hD, rfl, ((e1.trans e2).trans e3) _ _ h3', rfl⟩, by
        rw [hin]
        exact q H3 e3⟩
      have e1a : ∀ {H2 : Hp}, Ex H1 H2 → Ev (tOp (rIxT K) (tFld K (tVar 1) "mark") (tC (.int 0))) (start ["levels", "record", "found"] [.ref J, .ref R, .ref D]) H2 (.str a) := fun e H3 e3 Q q => fM (e1.trans e) H3 e3 _ fun H4 e4 => ⟨m, _, 0, _, rfl, rfl, st_of ((((e1.trans e).trans e3).trans e4) _ _ h2), by rw [hky]; exact atI_nat (j := 0) rfl, q H4 e4⟩
      have e2a : ∀ {H2 : Hp}, Ex H1 H2 → Ev (tOp (rIxT K) (tFld K (tVar 1) "after") (tC (.int 0))) (start ["levels", "record", "found"] [.ref J, .ref R, .ref D]) H2 (.str b) := fun e H3 e3 Q q => fA (e1.trans e) H3 e3 _ fun H4 e4 => ⟨va', _, 0, _, rfl, rfl, st_of ((((e1.trans e).trans e3).trans e4) _ _ h3'), by rw [hks]; exact atI_nat (j := 0) rfl, q H4 e4⟩
      refine s_ret (v := .bl true) (ev_andV (a := true) (b := true) inn fun _ => fun H2 e2 Q q => ?_) fun H2 e2 => kQ H2 (e1.trans e2)
      obtain ⟨dx2, o, bb, l1, l2, l3⟩ := lv.ext (e1.trans e2)
      refine ⟨_, rfl, J, dx2, _, rfl, l1, rfl, e1a e2 H2 (Ex.refl _) _ fun H3 e3 => e2a (e2.trans e3) H3 (Ex.refl _) _ fun H4 e4 => ?_⟩
      refine ⟨J, _, _, .str a, .str b, ns, bl, rfl, lv.ext (((e1.trans e2).trans e3).trans e4), ok, .str a, .str b, fun _ _ u H5 e5 g => ?_, fun z => (by rw [has_str ha] at z; cases z), fun _ z => (by rw [has_str hb] at z; cases z)⟩
      have g2 : Dd K H5 u (.bool true) := by
        have z : aboveF ns bl (strD (.str a)) (strD (.str b)) = .bool true := by
          show PyData.bool (!decide (a = b) && decide (b ∈ bl a)) = .bool true
          rw [decide_eq_false ne, decide_eq_true lo]
          rfl
        rw [z] at g
        exact g
      cases g2
      exact q H5 ((e3.trans e4).trans e5)
end
end K54
set_option maxHeartbeats 4000000
/-! sorted(rows), each row an int, an int, a text, an int and an object, no two alike in the first four -/
namespace My
open PySem PySem.Spec PyProof.Rows L2 Evl
theorem perm_uniq {α : Type} {R : α → α → Prop} : ∀ {l m : List α}, l.Perm m → l.Pairwise R → m.Pairwise R → (∀ a ∈ l, ∀ b ∈ l, R a b → R b a → a = b) → l = m
  | [], m, p, _, _, _ => (List.Perm.nil_eq p)
  | a :: l, [], p, _, _, _ => by cases p.length_eq
  | a :: l, b :: m, p, h1, h2, anti => by
    rw [List.pairwise_cons] at h1 h2
    have e : a = b := by
      have ma : a ∈ b :: m := p.mem_iff.mp (List.mem_cons_self ..)
      have mb : b ∈ a :: l := p.mem_iff.mpr (List.mem_cons_self ..)
      rcases List.mem_cons.mp ma with e | ma
      · exact e
      · rcases List.mem_cons.mp mb with e | mb2
        · exact e.symm
        · exact anti a (List.mem_cons_self ..) b mb (h1.1 b mb2) (h2.1 a ma)
    subst e
    rw [perm_uniq (List.Perm.cons_inv p) h1.2 h2.2 fun x hx y hy => anti x (List.mem_cons_of_mem _ hx) y (List.mem_cons_of_mem _ hy)]
abbrev R4 := Int × Int × Str × Int
def itF (f : R4) : List (Int ⊕ List Nat) := [.inl f.1, .inl f.2.1, .inr f.2.2.1.cps.toList, .inl f.2.2.2]
theorem itF_inj {f g : R4} (h : itF f = itF g) : f = g := by
  obtain ⟨a, b, c, d⟩ := f
  obtain ⟨a', b', c', d'⟩ := g
  unfold itF at h
  simp only [List.cons.injEq, Sum.inl.injEq, Sum.inr.injEq, and_true] at h
  obtain ⟨h1, h2, h3, h4⟩ := h
  have hc : c = c' := by
    cases c
    cases c'
    simp only [Str.mk.injEq]
    exact Array.toList_inj.mp h3
  rw [h1, h2, hc, h4]
def ltR (f g : R4) : Bool := lexLt itemOrd (itF f) (itF g)
abbrev Tab := List (Addr × R4)
def keyTab (tab : Tab) : Value → Option (List (Int ⊕ List Nat))
  | .ref a => (tab.find? fun p => decide (p.1 = a)).map fun p => itF p.2
  | _ => none
@[reducible] def kapT (tab : Tab) : PyProof.Rows.KeyKind where
  toKeyOrd := listOrd itemOrd
  keyOf := keyTab tab
  dflt := []
theorem keyTab_some {tab : Tab} {v : Value} {l : List (Int ⊕ List Nat)} (h : keyTab tab v = some l) : ∃ p ∈ tab, v = .ref p.1 ∧ itF p.2 = l := by
  cases v with
  | ref a =>
    have h' : (tab.find? fun p => decide (p.1 = a)).map (fun p => itF p.2) = some l := h
    cases hf : tab.find? fun p => decide (p.1 = a) with
    | none =>
      rw [hf] at h'
      cases h'
    | some p =>
      rw [hf] at h'
      have e : p.1 = a := of_decide_eq_true (List.find?_some (p := fun p : Addr × R4 => decide (p.1 = a)) hf)
      exact ⟨p, List.mem_of_find?_eq_some hf, by rw [e], Option.some.inj h'⟩
  | _ => cases h
theorem keyTab_of {tab : Tab} (nd : (tab.map (·.1)).Nodup) {p : Addr × R4} (m : p ∈ tab) : keyTab tab (.ref p.1) = some (itF p.2) := by
  have hs : (tab.find? fun q => decide (q.1 = p.1)).isSome = true := by
    rw [List.find?_isSome]
    exact ⟨p, m, decide_eq_true rfl⟩
  obtain ⟨q, hq⟩ := Option.isSome_iff_exists.mp hs
  have e : q.1 = p.1 := of_decide_eq_true (List.find?_some (p := fun q : Addr × R4 => decide (q.1 = p.1)) hq)
  have mq := List.mem_of_find?_eq_some hq
  have qp : q = p := by
    obtain ⟨i, hi⟩ := List.mem_iff_getElem?.mp mq
    obtain ⟨j, hj⟩ := List.mem_iff_getElem?.mp m
    obtain ⟨hi', ei⟩ := List.getElem?_eq_some_iff.mp hi
    obtain ⟨hj', ej⟩ := List.getElem?_eq_some_iff.mp hj
    have ij := (List.getElem_inj nd (h₀ := by rw [List.length_map]; exact hi') (h₁ := by rw [List.length_map]; exact hj')).mp (by rw [List.getElem_map, List.getElem_map, ei, ej, e])
    subst ij
    rw [← ei, ← ej]
  subst qp
  show (tab.find? fun r => decide (r.1 = q.1)).map (fun r => itF r.2) = _
  rw [hq]
  rfl
/-- the row of a table in the heap -/
def RowAt (h : Heap) (p : Addr × R4) : Prop := ∃ (o : Obj) (t1 t2 t3 t4 : Tok) (m : Addr) (n : Nat), h.get? p.1 = some o ∧ o.cls = .type "tuple" ∧ o.data = .seq #[.int p.2.1 t1, .int p.2.2.1 t2, .str p.2.2.2.1 t3, .int p.2.2.2.2 t4, .ref m] n
theorem RowAt.keep {h h' : Heap} {p : Addr × R4} (k : PyProof.Rows.G.KeepsTups h h') (r : RowAt h p) : RowAt h' p := by
  obtain ⟨o, t1, t2, t3, t4, m, n, h1, h2, h3⟩ := r
  exact ⟨o, t1, t2, t3, t4, m, n, k _ _ h1 h2, h2, h3⟩
section
variable {P : Program} {w : World} {A : Around} {E : Value → Shared → Prop} {s : Shared} {tab : Tab}
theorem rows_lt (s2 : Shared) (hr : ∀ p ∈ tab, RowAt s2.heap p) (inj : ∀ p ∈ tab, ∀ q ∈ tab, p.2 = q.2 → p.1 = q.1) : PyProof.Rows.G.LtAt P w s2 (kapT tab) (tuples' true) := by
  intro A E x y as bs Q hx hy hq
  obtain ⟨p, mp, rfl, ep⟩ := keyTab_some hx
  obtain ⟨q, mq, rfl, eq⟩ := keyTab_some hy
  obtain ⟨o, t1, t2, t3, t4, m, n, h1, h2, h3⟩ := hr p mp
  obtain ⟨o', u1, u2, u3, u4, m', n', g1, g2, g3⟩ := hr q mq
  have hq' : Q (lexLt itemOrd as bs) s2 := hq
  rw [← ep, ← eq] at hq'
  have strNe : ∀ {x y : Str}, ¬ x = y → x.cps.toList ≠ y.cps.toList := fun {x y} ne hl => ne (by
    cases x
    cases y
    simp only [Str.mk.injEq]
    exact Array.toList_inj.mp hl)
  obtain ⟨pa, a, b, c, d⟩ := p
  obtain ⟨qa, a', b', c', d'⟩ := q
  refine PySem.W.kat_lt h1 h3 g1 g3 ?_
  have hq2 : Q (lexLt itemOrd [.inl a, .inl b, .inr c.cps.toList, .inl d] [.inl a', .inl b', .inr c'.cps.toList, .inl d']) s2 := hq'
  refine PySem.W.kat_cons (wpAny_eqBool_int (PySem.W.kat_go (fun e => PySem.W.kat_yes ?_) (fun e => PySem.W.kat_no ?_)))
  · have e1 : a = a' := by simpa using e
    subst e1
    rw [lex_self] at hq2
    refine PySem.W.kat_cons (wpAny_eqBool_int (PySem.W.kat_go (fun e => PySem.W.kat_yes ?_) (fun e => PySem.W.kat_no ?_)))
    · have e2 : b = b' := by simpa using e
      subst e2
      rw [lex_self] at hq2
      refine PySem.W.kat_cons (wpAny_eqBool_str (PySem.W.kat_go (fun e => PySem.W.kat_yes ?_) (fun e => PySem.W.kat_no ?_)))
      · have e3 : c = c' := of_decide_eq_true e
        subst e3
        rw [lex_self] at hq2
        refine PySem.W.kat_cons (wpAny_eqBool_int (PySem.W.kat_go (fun e => PySem.W.kat_yes ?_) (fun e => PySem.W.kat_no ?_)))
        · have e4 : d = d' := by simpa using e
          subst e4
          have same := inj _ mp _ mq rfl
          have same : pa = qa := same
          subst same
          rw [h1] at g1
          cases g1
          rw [h3] at g3
          cases g3
          rw [lex_irrefl] at hq2
          refine PySem.W.kat_cons (PySem.SeqAt.EqAt.same _ _ _ _ _ (PySem.W.kat_yes (PySem.W.kat_nil ?_)))
          exact hq2
        · have ne : ¬ d = d' := by simpa using e
          rw [lex_diff (fun x => ne (Sum.inl.inj x))] at hq2
          exact oneLt_any_int hq2
      · have ne : ¬ c = c' := of_decide_eq_false e
        rw [lex_diff (fun z => strNe ne (Sum.inr.inj z))] at hq2
        exact oneLt_any_str hq2
    · have ne : ¬ b = b' := by simpa using e
      rw [lex_diff (fun x => ne (Sum.inl.inj x))] at hq2
      exact oneLt_any_int hq2
  · have ne : ¬ a = a' := by simpa using e
    rw [lex_diff (fun x => ne (Sum.inl.inj x))] at hq2
    exact oneLt_any_int hq2
theorem rows_kind {s2 : Shared} (hr : ∀ p ∈ tab, RowAt s2.heap p) (h2 : 2 ≤ tab.length) {Q : SortKind → Shared → Prop} (h : Q (tuples' true) s2) : wpAny (model P w) A (keyKind' (tab.map fun p => Value.ref p.1).toArray) Q E s2 := by
  have tups : ∀ l : Tab, (∀ p ∈ l, RowAt s2.heap p) → ∃ fs, TupsOf s2.heap (fun _ => false) (l.map fun p => Value.ref p.1) fs ∧ fs.length = l.length := fun l => by
    induction l with
    | nil => exact fun _ => ⟨[], .nil, rfl⟩
    | cons p r ih =>
      intro hl
      obtain ⟨fs, hf, e⟩ := ih fun q m => hl q (List.mem_cons_of_mem _ m)
      obtain ⟨o, t1, t2, t3, t4, m, n, h1, h2, h3⟩ := hl p (List.mem_cons_self ..)
      exact ⟨_ :: fs, .cons ⟨p.1, o, _, n, rfl, h1, h2, h3, rfl, fun _ => ⟨_, _, rfl⟩, fun z => by cases z⟩ hf, by rw [List.length_cons, e, List.length_cons]⟩
  obtain ⟨fs, hf, e⟩ := tups tab hr
  exact tup_kind (by omega) hf h
end
theorem ltR_irr (f : R4) : ltR f f = false := lex_irrefl _
theorem ltR_asym {f g : R4} (h : ltR f g = true) : ltR g f = false := by
  cases e : ltR g f
  · rfl
  · have z := lex_trans _ _ _ h e
    rw [lex_irrefl] at z
    cases z
theorem can_inj {can : Tab} (h : can.Pairwise fun p q => ltR p.2 q.2 = true) : ∀ p ∈ can, ∀ q ∈ can, p.2 = q.2 → p = q := by
  induction can with
  | nil =>
    intro p m
    cases m
  | cons a r ih =>
    rw [List.pairwise_cons] at h
    intro p mp q mq e
    rcases List.mem_cons.mp mp with e1 | mp2
    · rcases List.mem_cons.mp mq with e2 | mq2
      · rw [e1, e2]
      · have z := h.1 q mq2
        rw [← e1, e, ltR_irr] at z
        cases z
    · rcases List.mem_cons.mp mq with e2 | mq2
      · have z := h.1 p mp2
        rw [← e2, e, ltR_irr] at z
        cases z
      · exact ih h.2 p mp2 q mq2 e
def rSortR (K : PySem.W.Frag) : List V → Hp → VK → Prop := fun vs H Q => ∃ (a : Addr) (tab can : Tab), vs = [.ref a] ∧ SqL K H a (tab.map fun p => V.ref p.1) ∧ (∀ p ∈ tab, ∃ m, H p.1 = some (.tup [.int p.2.1, .int p.2.2.1, .str p.2.2.2.1, .int p.2.2.2.2, .ref m])) ∧ (tab.map (·.1)).Nodup ∧
  can.Perm tab ∧ (can.Pairwise fun p q => ltR p.2 q.2 = true) ∧ ∀ l, H l = none → Q (.ref l) (upd H l (.lst (can.map fun p => V.ref p.1)))
theorem refs_vals : ∀ {tab : Tab} {us : List Value}, Vals (tab.map fun p => V.ref p.1) us → us = tab.map fun p => Value.ref p.1
  | [], _, r => by
    cases r
    rfl
  | p :: tab, _, r => by
    cases r with
    | cons r1 r2 =>
      cases r1
      rw [refs_vals r2]
      rfl
theorem vals_refs : ∀ tab : Tab, Vals (tab.map fun p => V.ref p.1) (tab.map fun p => Value.ref p.1)
  | [] => .nil
  | p :: tab => .cons rfl (vals_refs tab)
theorem zip_refs : ∀ tab : Tab, (tab.map fun p => Value.ref p.1).zip (tab.map fun p => Value.ref p.1) = tab.map fun p => (Value.ref p.1, Value.ref p.1)
  | [] => rfl
  | p :: r => by rw [List.map_cons, List.zip_cons_cons, zip_refs r, List.map_cons]
theorem cr_sortR {X : Cx} : CallR X (.builtin "sorted") (rSortR X.K) := by
  intro pins s σ H xs us Q I r h
  obtain ⟨a, tab, can, rfl, hs, hx, nd, pm, pw, q⟩ := h
  obtain ⟨its, rv, hl, hz⟩ := I.list hs
  obtain ⟨u, rfl, ru⟩ := vals1 r
  obtain rfl : u = Value.ref a := ru
  have e1 := refs_vals rv
  subst e1
  have rows : ∀ p ∈ tab, RowAt s.heap p := fun p m => by
    obtain ⟨mm, ht⟩ := hx p m
    obtain ⟨_, its, r2, o, ho, hc, n, hd⟩ := (show ObjOk X.prog X.w H s.heap p.1 (.tup _) from I.hok _ _ ht)
    cases r2 with
    | cons r1 r2 =>
      obtain ⟨t1, rfl⟩ := r1
      cases r2 with
      | cons r1 r2 =>
        obtain ⟨t2, rfl⟩ := r1
        cases r2 with
        | cons r1 r2 =>
          obtain ⟨t3, rfl⟩ := r1
          cases r2 with
          | cons r1 r2 =>
            obtain ⟨t4, rfl⟩ := r1
            cases r2 with
            | cons r1 r2 =>
              cases r1
              cases r2
              exact ⟨o, t1, t2, t3, t4, mm, n, ho, hc, hd⟩
  have ij := can_inj pw
  have inj : ∀ p ∈ tab, ∀ q ∈ tab, p.2 = q.2 → p.1 = q.1 := fun p mp q mq e => by rw [ij p (pm.mem_iff.mpr mp) q (pm.mem_iff.mpr mq) e]
  refine PyProof.Rows.G.sortedG (κ := kapT tab) (kd := tuples' true) hl.isList (fun p hp => ?_) (fun s2 k => rows_lt s2 (fun p m => (rows p m).keep k) inj) (fun h2 A E s2 Q k hq => rows_kind (fun p m => (rows p m).keep k) (by rw [List.length_map] at h2; exact h2) hq) (by rw [List.length_map]; rw [List.length_map] at hz; exact hz) fun st p1 p2 _ => ?_
  · rw [pairsOf_toList] at hp
    obtain ⟨_, hm⟩ := mem_zip_self hp
    obtain ⟨t, ht, e⟩ := List.mem_map.mp hm
    rw [← e]
    exact ⟨_, keyTab_of nd ht⟩
  · have zz := zip_refs tab
    have lp : (arrOf st).toList.Perm (tab.map fun p => (Value.ref p.1, Value.ref p.1)) := by
      have z := Array.perm_iff_toList_perm.mp p1
      rw [pairsOf_toList, zz] at z
      exact z
    let key : Keyed → List (Int ⊕ List Nat) := fun x => (keyTab tab x.1).getD []
    have keyF : ∀ p ∈ tab, key (Value.ref p.1, Value.ref p.1) = itF p.2 := fun p m => by
      show (keyTab tab (.ref p.1)).getD [] = _
      rw [keyTab_of nd m]
      rfl
    have eqL : (arrOf st).toList = can.map fun p => (Value.ref p.1, Value.ref p.1) := by
      refine perm_uniq (R := fun x y => lexLt itemOrd (key y) (key x) = false) (lp.trans (pm.symm.map _)) ?_ ?_ ?_
      · rw [List.pairwise_iff_getElem]
        intro i j hi hj hij
        have sz : (arrOf st).size = (pairsOf (tab.map fun p => Value.ref p.1)).size := p1.size_eq
        have z := p2 i j (Nat.le_of_lt hij) (by rw [← sz]; simpa using hj)
        have kk : ∀ (n : Nat) (hn : n < (arrOf st).toList.length), KK (kapT tab) (arrOf st) n = key ((arrOf st).toList[n]) := fun n hn => by
          have e0 : (arrOf st)[n]? = some ((arrOf st).toList[n]) := by
            rw [← Array.getElem?_toList, List.getElem?_eq_getElem hn]
          unfold KK
          rw [e0]
        have z2 : lexLt itemOrd (KK (kapT tab) (arrOf st) j) (KK (kapT tab) (arrOf st) i) = false := z
        rw [kk i hi, kk j hj] at z2
        exact z2
      · rw [List.pairwise_map]
        refine pw.imp_of_mem fun {p q} mp mq h => ?_
        rw [keyF p (pm.mem_iff.mp mp), keyF q (pm.mem_iff.mp mq)]
        exact ltR_asym h
      · intro x hx1 y hy1 h1 h2
        obtain ⟨p, mp, rfl⟩ := List.mem_map.mp (lp.mem_iff.mp hx1)
        obtain ⟨q', mq, rfl⟩ := List.mem_map.mp (lp.mem_iff.mp hy1)
        rw [keyF p mp, keyF q' mq] at h1 h2
        have e := itF_inj (lex_total _ _ h2 h1)
        rw [inj p mp q' mq e]
    have out : ((arrOf st).map (·.2)).toList = can.map fun p => Value.ref p.1 := by
      rw [Array.toList_map, eqL, List.map_map]
      rfl
    obtain ⟨n, hn⟩ := sortedAll_at s.heap (tab.map fun p => Value.ref p.1) ((arrOf st).map (·.2))
    have outA : (arrOf st).map (·.2) = (can.map fun p => Value.ref p.1).toArray := by
      rw [← out, Array.toArray_toList]
    have hk : H (s.heap.objs.size + 1) = none := I.hok.fresh (Nat.le_succ _)
    refine ⟨.ref (s.heap.objs.size + 1), upd H (s.heap.objs.size + 1) (.lst (can.map fun p => V.ref p.1)), I.laid (t' := s.toks) (fun b o e => sortedAll_old e) (Nat.le_succ _) ⟨?_, _, n, vals_refs can, ?_⟩, rfl, q _ hk⟩
    · rw [List.length_map, pm.length_eq]
      rw [List.length_map] at hz
      exact hz
    · rw [outA] at hn ⊢
      exact hn
end My
set_option maxHeartbeats 8000000
namespace K54
open PySem PySem.Spec PyProof.Rows L2 Evl My LamX
abbrev sFio : Stmt := top 20
/-- level, source and number of a mark -/
def lvK (ks : List L2.Key) : Str := match ks with
  | [.inr l, .inr _, .inl _] => l
  | _ => ""
def srK (ks : List L2.Key) : Str := match ks with
  | [.inr _, .inr s, .inl _] => s
  | _ => ""
def nuK (ks : List L2.Key) : Int := match ks with
  | [.inr _, .inr _, .inl n] => n
  | _ => 0
def MkOk (ns : List Str) (ks : List L2.Key) : Prop := ks = [.inr (lvK ks), .inr (srK ks), .inl (nuK ks)] ∧ lvK ks ∈ ns
def rowF (ns : List Str) (r : Rc) : R4 := ((ns.length : Int) - (ixOf (lvK r.ky) ns : Nat), r.st, srK r.ky, nuK r.ky)
def RowOf (ns : List Str) (H : Hp) (t m : Addr) (r : Rc) : Prop := H t = some (.tup [.int (rowF ns r).1, .int (rowF ns r).2.1, .str (rowF ns r).2.2.1, .int (rowF ns r).2.2.2, .ref m]) ∧ H m = some (.tup (r.ky.map kV))
theorem RowOf.ext {ns : List Str} {H H' : Hp} {t m : Addr} {r : Rc} (e : Ex H H') (h : RowOf ns H t m r) : RowOf ns H' t m r := ⟨e _ _ h.1, e _ _ h.2⟩
/-- these are the marks of these records -/
inductive MrkL (rec : Addr → Rc) (H : Hp) : List V → List Addr → Prop
  | nil : MrkL rec H [] []
  | cons {m a : Addr} {ms : List V} {as : List Addr} : H m = some (.tup ((rec a).ky.map kV)) → MrkL rec H ms as → MrkL rec H (.ref m :: ms) (a :: as)
theorem MrkL.ext {rec : Addr → Rc} {H H' : Hp} (e : Ex H H') {ms : List V} {as : List Addr} (h : MrkL rec H ms as) : MrkL rec H' ms as := by
  induction h with
  | nil => exact .nil
  | cons h _ ih => exact .cons (e _ _ h) ih
theorem MrkL.len {rec : Addr → Rc} {H : Hp} {ms : List V} {as : List Addr} (h : MrkL rec H ms as) : ms.length = as.length := by
  induction h with
  | nil => rfl
  | cons _ _ ih => rw [List.length_cons, List.length_cons, ih]
theorem mkl_map {rec : Addr → Rc} {H : Hp} (mof : Addr → Addr) : ∀ {as : List Addr}, (∀ a ∈ as, H (mof a) = some (.tup ((rec a).ky.map kV))) → MrkL rec H (as.map fun a => V.ref (mof a)) as
  | [], _ => .nil
  | a :: as, h => .cons (h a (List.mem_cons_self ..)) (mkl_map mof fun b m => h b (List.mem_cons_of_mem _ m))
theorem given_map {α : Type} (l : List α) (d : α) (g : α → V) : given l.length (fun _ => true) (fun i => g (l.getD i d)) = l.map g := by
  unfold given
  rw [List.filter_eq_self.mpr fun _ _ => rfl]
  refine List.ext_getElem (by simp) fun i h1 h2 => ?_
  have hi : i < l.length := by simpa using h2
  simp [List.getD, List.getElem?_eq_getElem hi]
theorem evSub {σ : L2.St} {H : Hp} {ta tb : TE} {i j : Int} (ha : Ev ta σ H (.int i)) (hb : Ev tb σ H (.int j)) : Ev (tOp (rI0 fun i j => .int (i - j)) ta tb) σ H (.int (i - j)) := ev_op ha hb rv_I0
theorem s_appT {K : PySem.W.Frag} {σ : L2.St} {H : Hp} {ta : TE} {tas : TA} {D : Ends} {l : Addr} {xs vs : List V} (hl : H l = some (.lst xs)) (ha : Ev ta σ H (.ref l)) (h : EvA tas σ H vs) (hz : xs.length < 100000) (hv : vs.length ≤ 100000)
    (k : ∀ t H1, Ex H H1 → H1 t = none → D.nx σ (upd (upd H1 t (.tup vs)) l (.lst (xs ++ [.ref t])))) : tDrop (tBM K "list" rAppend ta (tCons (tTup tas) tNil)) D σ H := ha H (Ex.refl H) _ fun H1 e1 =>
  ⟨Or.inl ⟨rfl, xs, sq_of (e1 l _ hl)⟩, h H1 e1 _ fun H2 e2 => ⟨sz_of hv, fun t nt => ⟨l, xs, .ref t, rfl, rfl, by rw [upd_ne (ne_of_none (e2 l _ (e1 l _ hl)) nt)]; exact e2 l _ (e1 l _ hl), sz_lt hz, k t H2 (e1.trans e2) nt⟩⟩⟩
def spFio (K : PySem.W.Frag) (CL C : Addr) (rec : Addr → Rc) : Sp := fun vs H Q _ => ∃ (J L : Addr) (ns : List Str) (bl : Str → List Str) (as can : List Addr), vs = [.ref J, .ref L] ∧ LvAt CL H J ns bl ∧ LvOk ns bl ∧ SqL K H L (as.map V.ref) ∧ (∀ a ∈ as, RecAt K C H a (rec a)) ∧ (∀ a ∈ as, MkOk ns (rec a).ky) ∧ as.Nodup ∧ as.length ≤ 900 ∧
  can.Perm as ∧ (can.Pairwise fun a b => ltR (rowF ns (rec a)) (rowF ns (rec b)) = true) ∧ ∀ p ms H', H p = none → Ex H H' → H' p = some (.lst ms) → MrkL rec H' ms can → Q (.ref p) H'
section
variable {P : Program} {w : World} {K : PySem.W.Frag} {mg : Str → Option Value} {base : Heap} {f CL C D1 : Addr} {fd : FuncData}
def NF : List Str := ["levels", "records", "order", "rows", "record", "level", "source", "number", "row"]
theorem scFio : FnScope NF ["levels", "records"] (defScope sFio) := ⟨rfl, rfl, rfl, by decide +kernel, rfl, by decide +kernel, by decide +kernel⟩
theorem ok_fio {rec : Addr → Rc} (F : Fun K "followers_in_order" "followers_in_order" sFio f fd) (T : Txt mg) (hso : mg "sorted" = none) (c : RcC K C) (cl : LvC K CL) (NL : MD P w K mg base CL "names" ["self"] 1 (sp0L CL)) : FnOk P w K mg base CX0 2 f fd ["levels", "records"] (spFio K CL C rec) := by
  refine F.ok scFio (fun vs H Q E h => ?_) (fun cdv A outer s H vs Q E hr h => ?_)
  · obtain ⟨J, L, ns, bl, as, can, rfl, _⟩ := h
    rfl
  · obtain ⟨J, L, ns, bl, as, can, rfl, lv, ok, hL, rs, mo, nd, len, pm, pw, kQ⟩ := h
    have hu := hu_of hr
    have hr1 : Room 1 _ := hr
    refine ⟨_, pss_cons (ps_set (i := 2) scFio.nd rfl (Or.inl rfl) (pe_md0 NL cl.cl hr1 (pv 0)))
      (pss_cons (ps_set (i := 3) scFio.nd rfl (Or.inl rfl) (pe_lst pa_nil))
      (pss_cons (ps_for PassesOwn.never rfl (pi_list (pv 1)) (pg_name (i := 4) scFio.nd rfl (Or.inl rfl))
        (pss_cons (ps_asg (pe_fld (pv 4) rfl) (pg_tup rfl (pgs_cons (pg_name (i := 5) scFio.nd rfl (Or.inl rfl)) (pgs_cons (pg_name (i := 6) scFio.nd rfl (Or.inl rfl)) (pgs_cons (pg_name (i := 7) scFio.nd rfl (Or.inl rfl)) pgs_nil)))))
        (pss_one (ps_expr (pe_bm PySem.F.plainAttrs_list PySem.F.slot_list_append PySem.F.type_list_append mt_append (pv 3) (pa_cons (pe_tup (pa_cons (pe_op op_sub (pe_callB call_len_seq (by rfl) T.len (by decide +kernel) (pa_cons (pv 2) pa_nil)) (pe_bm PySem.F.plainAttrs_list PySem.F.slot_list_index PySem.F.type_list_index mt_index (pv 2) (pa_cons (pv 5) pa_nil))) (pa_cons (pe_fld (pv 4) rfl) (pa_cons (pv 6) (pa_cons (pv 7) (pa_cons (pe_fld (pv 4) rfl) pa_nil)))))) pa_nil))))))
      (pss_one (ps_ret (pe_lc (own := [("row", 8)]) (g := gName 8) (tt := tYes) (te := tOp (rIxT K) (tVar 8) (tC (.int 4))) rfl scFio.nd (pi_list (pe_callB cr_sortR (by rfl) hso (by decide +kernel) (pa_cons (pv 3) pa_nil))) (blkOk_by (own := [("row", 8)]) (N := NF) (sc := defScope sFio) (by decide +kernel)) (fun _ _ _ _ _ => pg_name (i := 8) scFio.nd rfl (Or.inl rfl)) (fun _ _ _ _ _ => pts_nil) (fun _ _ _ _ _ => pe_ix ix_tup (pv 8) pe_int (fun _ _ => rfl))))))), ?_⟩
    obtain ⟨dx, o, b, l1, l2, l3⟩ := id lv
    refine ⟨_, rfl, J, dx, _, rfl, l1, rfl, J, ns, bl, rfl, lv, ok, fun p H1 np e1 hp => ?_⟩
    refine ⟨Nat.zero_le _, fun R nR => ?_⟩
    have pR : p ≠ R := fun z => by
      rw [z, nR] at hp
      cases hp
    have start : ∀ {H'}, Ex H1 H' → Ex H H' := fun e => e1.trans e
    refine ⟨_, rfl, L, rfl, ⟨_, ex_l (e1.trans (Ex.new nR)) hL⟩, for_list (xs := as.map V.ref) (fun i σ' H' => (∃ o4 o5 o6 o7 o8 : Option V, σ' = [some (.ref J), some (.ref L), some (.ref p), some (.ref R), o4, o5, o6, o7, o8]) ∧ Ex H1 H' ∧
      ∃ tof mof : Addr → Addr, H' R = some (.lst ((as.take i).map fun a => V.ref (tof a))) ∧ (∀ a ∈ as.take i, RowOf ns H' (tof a) (mof a) (rec a)) ∧ ((as.take i).map tof).Nodup) ?_ ?_ ?_ ?_⟩
    · exact ⟨⟨_, _, _, _, _, rfl⟩, Ex.new nR, id, id, upd_same, (fun a m => by cases m), List.nodup_nil⟩
    · rintro i σ' H' _ ⟨_, e, _⟩
      exact ex_l (start e) hL
    · rintro i x σ' H' hx ⟨⟨o4, o5, o6, o7, o8, rfl⟩, e, tof, mof, hR, rows, ndt⟩
      obtain ⟨a, ha, rfl⟩ : ∃ a, as[i]? = some a ∧ V.ref a = x := by
        rw [List.getElem?_map] at hx
        cases hz : as[i]? with
        | none =>
          rw [hz] at hx
          cases hx
        | some s =>
          rw [hz] at hx
          exact ⟨s, rfl, Option.some.inj hx⟩
      have ma := List.mem_of_getElem? ha
      obtain ⟨dx2, m, va, vt, h1, h2, h3, h4⟩ := (rs a ma).ext (start e)
      obtain ⟨hk, hl⟩ := mo a ma
      have h2' : H' m = some (.tup [.str (lvK (rec a).ky), .str (srK (rec a).ky), .int (nuK (rec a).ky)]) := by
        rw [h2]
        conv => lhs; rw [hk]
        rfl
      refine ⟨_, rfl, a, C, dx2, _, .ref m, rfl, h1, c.cl, c.n1, rfl, m, _, rfl, st_of h2', rfl, _, _, rfl, _, _, rfl, _, _, rfl, rfl, ?_⟩
      have hp' := e _ _ hp
      have eS : Ev (tFld K (tVar 4) "stamp") ([some (.ref J), some (.ref L), some (.ref p), some (.ref R), some (.ref a), some (.str (lvK (rec a).ky)), some (.str (srK (rec a).ky)), some (.int (nuK (rec a).ky)), o8] : L2.St) H' (.int (rec a).st) := fun H2 e2 Q q => ⟨_, rfl, a, C, dx2, _, _, rfl, e2 _ _ h1, c.cl, c.n2, rfl, q H2 (Ex.refl _)⟩
      have eM : Ev (tFld K (tVar 4) "mark") ([some (.ref J), some (.ref L), some (.ref p), some (.ref R), some (.ref a), some (.str (lvK (rec a).ky)), some (.str (srK (rec a).ky)), some (.int (nuK (rec a).ky)), o8] : L2.St) H' (.ref m) := fun H2 e2 Q q => ⟨_, rfl, a, C, dx2, _, _, rfl, e2 _ _ h1, c.cl, c.n1, rfl, q H2 (Ex.refl _)⟩
      have e1 : Ev (tOp (rI0 fun i j => .int (i - j)) (tCB (rLenS K) (tCons (tVar 2) tNil)) (tBM K "list" (rIndex K) (tVar 2) (tCons (tVar 5) tNil))) ([some (.ref J), some (.ref L), some (.ref p), some (.ref R), some (.ref a), some (.str (lvK (rec a).ky)), some (.str (srK (rec a).ky)), some (.int (nuK (rec a).ky)), o8] : L2.St) H' (.int ((ns.length : Int) - (ixOf (lvK (rec a).ky) ns : Nat))) :=
        evSub (ev_is (ev_len (K := K) (ev_var rfl) (sq_of hp')) (by rw [List.length_map])) (ev_index (K := K) (ev_var rfl) (sq_of hp') (ev_var rfl) hl)
      have evs := ea_cons e1 (ea_cons eS (ea_cons (ev_var (i := 6) (v := .str (srK (rec a).ky)) rfl) (ea_cons (ev_var (i := 7) (v := .int (nuK (rec a).ky)) rfl) (ea_cons eM ea_nil))))
      have il0 : i < as.length := (List.getElem?_eq_some_iff.mp ha).1
      refine s_appT hR (ev_var rfl) evs (by rw [List.length_map, List.length_take]; omega) (by show 5 ≤ 100000; decide) fun t H2 e2 nt => ?_
      have hR2 := e2 _ _ hR
      have tR : R ≠ t := ne_of_none hR2 nt
      have no : a ∉ as.take i := fun z => by
        obtain ⟨k, hk2⟩ := List.mem_iff_getElem?.mp z
        have lt : k < i := by
          have := (List.getElem?_eq_some_iff.mp hk2).1
          rw [List.length_take] at this
          omega
        rw [List.getElem?_take_of_lt lt] at hk2
        obtain ⟨b1, b2⟩ := List.getElem?_eq_some_iff.mp hk2
        obtain ⟨c1, c2⟩ := List.getElem?_eq_some_iff.mp ha
        have z2 := (List.getElem_inj nd (h₀ := b1) (h₁ := c1)).mp (b2.trans c2.symm)
        omega
      have tk : as.take (i + 1) = as.take i ++ [a] := by
        rw [List.take_add_one, ha]
        rfl
      have away : ∀ {q : Addr} {u : HO}, H' q = some u → (∀ zs, u ≠ .lst zs) → (upd (upd H2 t (.tup [.int ((ns.length : Int) - (ixOf (lvK (rec a).ky) ns : Nat)), .int (rec a).st, .str (srK (rec a).ky), .int (nuK (rec a).ky), .ref m])) R (.lst (((as.take i).map fun a => V.ref (tof a)) ++ [.ref t]))) q = some u := fun {q u} hq nl => by
        have q2 := e2 _ _ hq
        rw [upd_ne (fun z => by rw [z, hR2] at q2; exact nl _ (Option.some.inj q2).symm), upd_ne (ne_of_none q2 nt)]
        exact q2
      refine ⟨⟨_, _, _, _, _, rfl⟩, ?_, fun x => if x = a then t else tof x, fun x => if x = a then m else mof x, ?_, fun x mx => ?_, ?_⟩
      · intro q u hq
        have q2 := e2 _ _ (e _ _ hq)
        rw [upd_ne (ne_of_none hq nR), upd_ne (ne_of_none q2 nt)]
        exact q2
      · rw [upd_same, tk, List.map_append]
        congr 2
        congr 1
        · refine List.map_congr_left fun x mx => ?_
          show V.ref (tof x) = V.ref (if x = a then t else tof x)
          rw [if_neg fun z => no (by rw [← z]; exact mx)]
        · show [V.ref t] = [V.ref (if a = a then t else tof a)]
          rw [if_pos rfl]
      · rw [tk] at mx
        show RowOf ns _ (if x = a then t else tof x) (if x = a then m else mof x) (rec x)
        rcases List.mem_append.mp mx with mx | mx
        · have ne : x ≠ a := fun z => no (by rw [← z]; exact mx)
          have rx := rows x mx
          rw [if_neg ne, if_neg ne]
          have ra := away rx.1 fun _ z => nomatch z
          have rb := away rx.2 fun _ z => nomatch z
          exact And.intro ra rb
        · have z := List.mem_singleton.mp mx
          subst z
          rw [if_pos rfl, if_pos rfl]
          have rb := away h2 fun _ z => nomatch z
          refine And.intro ?_ rb
          rw [upd_ne (Ne.symm tR), upd_same]
          rfl
      · rw [tk, List.map_append]
        refine List.nodup_append.mpr ⟨?_, by simp, fun x hx y hy exy => ?_⟩
        · have z : (as.take i).map (fun x => if x = a then t else tof x) = (as.take i).map tof := List.map_congr_left fun x mx => if_neg fun z => no (by rw [← z]; exact mx)
          rw [z]
          exact ndt
        · obtain ⟨q, hq, rfl⟩ := List.mem_map.mp hx
          have y2 : y = t := by
            have z := List.mem_singleton.mp (show y ∈ [if a = a then t else tof a] from hy)
            rw [if_pos rfl] at z
            exact z
          have exy2 : (if q = a then t else tof q) = y := exy
          rw [if_neg (fun z => no (by rw [← z]; exact hq)), y2] at exy2
          obtain ⟨r1, _⟩ := rows q hq
          rw [exy2] at r1
          have r2 := e2 _ _ r1
          rw [nt] at r2
          cases r2
    · rintro σ' H' ⟨⟨o4, o5, o6, o7, o8, rfl⟩, e, tof, mof, hR, rows, ndt⟩
      have lenl : (as.map V.ref).length = as.length := List.length_map ..
      rw [lenl, List.take_length] at hR rows ndt
      have hS : EvL (tCB (rSortR K) (tCons (tVar 3) tNil)) ([some (.ref J), some (.ref L), some (.ref p), some (.ref R), o4, o5, o6, o7, o8] : L2.St) H' (can.map fun a => V.ref (tof a)) := fun H2 e2 Q q => ea_cons (ev_var (i := 3) (v := .ref R) rfl) ea_nil H2 e2 _ fun H3 e3 => by
        refine ⟨R, as.map fun a => (tof a, rowF ns (rec a)), can.map fun a => (tof a, rowF ns (rec a)), rfl, ?_, ?_, ?_, pm.map _, ?_, fun l nl => ?_⟩
        · rw [List.map_map]
          exact sq_of ((e2.trans e3) _ _ hR)
        · intro x hx
          obtain ⟨a, ma, rfl⟩ := List.mem_map.mp hx
          exact ⟨mof a, (e2.trans e3) _ _ (rows a ma).1⟩
        · rw [List.map_map]
          exact ndt
        · rw [List.pairwise_map]
          exact pw
        · rw [List.map_map]
          exact q l _ (fresh_back e3 nl) (e3.trans (Ex.new nl)) upd_same
      have hL2 := el_lcNL (K := K) (j := 8) (vs := [8]) (t := tYes) (te := tOp (rIxT K) (tVar 8) (tC (.int 4))) (fun _ => true) (fun i => V.ref (mof (can.getD i 0))) hS (by rw [List.length_map, pm.length_eq]; omega) (fun x => rfl) (fun i x H2 e2 hx => et_yes) (fun i x H2 e2 hx _ => by
        obtain ⟨a, ha, rfl⟩ : ∃ a, can[i]? = some a ∧ V.ref (tof a) = x := by
          rw [List.getElem?_map] at hx
          cases hz : can[i]? with
          | none =>
            rw [hz] at hx
            cases hx
          | some s =>
            rw [hz] at hx
            exact ⟨s, rfl, Option.some.inj hx⟩
        have ma : a ∈ as := pm.mem_iff.mp (List.mem_of_getElem? ha)
        have eg : can.getD i 0 = a := by
          rw [List.getD, ha]
          rfl
        show Ev _ _ H2 (V.ref (mof (can.getD i 0)))
        rw [eg]
        exact fun H3 e3 Q q => ⟨_, rfl, tof a, _, 4, _, rfl, rfl, st_of ((e2.trans e3) _ _ (rows a ma).1), atI_nat (j := 4) rfl, q H3 (Ex.refl _)⟩)
      rw [List.length_map, given_map can 0 fun a => V.ref (mof a)] at hL2
      exact s_retL hL2 fun q H2 nq e2 hq => kQ q _ H2 (fresh_back (start e) nq) ((start e).trans e2) hq (mkl_map mof fun a ma => e2 _ _ (rows a (pm.mem_iff.mp ma)).2)
end
end K54
set_option maxHeartbeats 8000000
namespace K54
open PySem PySem.Spec PyProof.Rows L2 Evl My LamX
abbrev sRio : Stmt := top 21
/-- a def that may raise, by its name -/
structure Dx (P : Program) (w : World) (K : PySem.W.Frag) (mg : Str → Option Value) (base : Heap) (x : Str) (ps : List Str) (k : Nat) (sp : Sp) : Prop where
  ex : ∃ (f : Addr) (fd : FuncData), mg x = some (.ref f) ∧ PySem.W.keepIn K (.ref f) = true ∧ FnOk P w K mg base (L2.CX P w) k f fd ps sp ∧ Binds K fd ps []
theorem pe_dx {X : Cx} {x : Str} {ps : List Str} {k : Nat} {sp : Sp} {e : Expr} {es : List Expr} {t : TA} {p pos : Pos} {E : XK} (D : Dx X.prog X.w X.K X.mg X.base x ps k sp) (hr : Room k X.A) (hg : Gl X x) (hx : Passes (L2.CX X.prog X.w) X E) (ha : PA X (e :: es) t)
    (hdb : (x == ("__debug__" : Str)) = false := by decide) (he : starEach (e :: es) X.env = (false, eval e X.env) :: starEach es X.env := by rfl) (hpl : (backTo pos (starEach es X.env)).any (·.1) = false := by rfl) :
    PE X (.Call (.Name x p) (e :: es) [] pos) (tCall sp [] E t) := by
  obtain ⟨f, fd, hm, hk, F, b⟩ := D.ex
  exact pe_call F hr hg hm hk b .nil hx ha hdb he hpl
/-- the walk: what follows a record, right behind it -/
def runC (rec : Addr → Rc) (can : MKey → List Addr) : Nat → List Addr → Option (List Addr)
  | _, [] => some []
  | 0, _ :: _ => none
  | n + 1, a :: s => (runC rec can n (can (.tup (rec a).ky) ++ s)).map (a :: ·)
theorem runC_len {rec : Addr → Rc} {can : MKey → List Addr} : ∀ {n : Nat} {s out : List Addr}, runC rec can n s = some out → s.length ≤ n ∧ out.length ≤ n
  | n, [], out, h => by
    have z : some ([] : List Addr) = some out := by
      rw [← h]
      cases n <;> rfl
    cases z
    exact ⟨Nat.zero_le _, Nat.zero_le _⟩
  | 0, _ :: _, out, h => by cases h
  | n + 1, a :: s, out, h => by
    have h' : (runC rec can n (can (.tup (rec a).ky) ++ s)).map (a :: ·) = some out := h
    cases hz : runC rec can n (can (.tup (rec a).ky) ++ s) with
    | none =>
      rw [hz] at h'
      cases h'
    | some o =>
      rw [hz] at h'
      cases h'
      obtain ⟨h1, h2⟩ := runC_len hz
      rw [List.length_append] at h1
      rw [List.length_cons, List.length_cons]
      omega
def chl (rec : Addr → Rc) (ds : List Addr) (k : MKey) : List Addr := ds.filter fun a => decide ((rec a).af = k)
theorem chl_app (rec : Addr → Rc) (ds : List Addr) (a : Addr) (k : MKey) : chl rec (ds ++ [a]) k = chl rec ds k ++ (if (rec a).af = k then [a] else []) := by
  unfold chl
  rw [List.filter_append]
  congr 1
  by_cases e : (rec a).af = k
  · rw [if_pos e, List.filter_cons, if_pos (decide_eq_true e)]
    rfl
  · rw [if_neg e, List.filter_cons, if_neg (by rw [decide_eq_false e]; decide)]
    rfl
theorem look_app {kvs : List MEnt} {k0 k : MKey} {y z : V} (h : lookM kvs k0 = none) : lookM (kvs ++ [(k0, y, z)]) k = if k0 = k then some z else lookM kvs k := by
  unfold lookM at h ⊢
  rw [List.find?_append]
  have h0 : (kvs.find? fun e => decide (e.1 = k0)) = none := by
    cases hf : kvs.find? fun e => decide (e.1 = k0) with
    | none => rfl
    | some e =>
      rw [hf] at h
      cases h
  by_cases e : k0 = k
  · subst e
    rw [h0, if_pos rfl, List.find?_cons]
    simp
  · rw [if_neg e, List.find?_cons]
    have z0 : decide (k0 = k) = false := decide_eq_false e
    show Option.map (fun x : MEnt => x.2.2) ((kvs.find? fun e => decide (e.1 = k)).or (match decide (k0 = k) with | true => some (k0, y, z) | false => List.find? (fun e => decide (e.1 = k)) [])) = _
    rw [z0]
    cases kvs.find? fun e => decide (e.1 = k) <;> rfl
theorem kmv_pres {H H' : Hp} (g : ∀ b xs, H b = some (.tup xs) → H' b = some (.tup xs)) {v : V} {k : MKey} (h : KmV H v k) : KmV H' v k := by
  cases v <;> cases k <;> first | exact h | exact g _ _ h
theorem mrk_pres {rec : Addr → Rc} {H H' : Hp} (g : ∀ b xs, H b = some (.tup xs) → H' b = some (.tup xs)) {ms : List V} {as : List Addr} (h : MrkL rec H ms as) : MrkL rec H' ms as := by
  induction h with
  | nil => exact .nil
  | cons h _ ih => exact .cons (g _ _ h) ih
/-- the followers found so far -/
structure FolL (w : World) (rec : Addr → Rc) (H0 H : Hp) (F : Addr) (kvs : List MEnt) (ds : List Addr) : Prop where
  mx : MxAt w H F kvs
  ls : ∀ k v, lookM kvs k = some v → ∃ l, v = .ref l ∧ H0 l = none ∧ H l = some (.lst ((chl rec ds k).map V.ref))
  no : ∀ k, lookM kvs k = none → chl rec ds k = []
  inj : ∀ k k' v, lookM kvs k = some v → lookM kvs k' = some v → k = k'
  len : kvs.length ≤ ds.length
section
variable {w : World} {rec : Addr → Rc} {H0 H H' : Hp} {F l t a : Addr} {kvs : List MEnt} {ds : List Addr} {va : V}
theorem FolL.pres (h : FolL w rec H0 H F kvs ds) (g : ∀ b o, H b = some o → (∀ od u, o ≠ .frz od u) → H' b = some o) : FolL w rec H0 H' F kvs ds :=
  ⟨⟨g _ _ h.mx.at_ (fun _ _ z => nomatch z), fun e m => kmv_pres (fun b xs q => g b _ q fun _ _ z => nomatch z) (h.mx.key e m), h.mx.val, h.mx.nd⟩, fun k v q => by
    obtain ⟨l, e, n, r⟩ := h.ls k v q
    exact ⟨l, e, n, g _ _ r fun _ _ z => nomatch z⟩, h.no, h.inj, h.len⟩
theorem FolL.ext (h : FolL w rec H0 H F kvs ds) (e : Ex H H') : FolL w rec H0 H' F kvs ds := h.pres fun b o q _ => e b o q
theorem fol_nil (h : H F = some (MxO w F [])) : FolL w rec H0 H F [] [] :=
  ⟨MxAt.mk h (fun _ m => (by cases m)) (fun _ m => (by cases m)) List.nodup_nil, fun k v q => (by cases q), fun _ _ => rfl, fun _ _ _ q => (by cases q), Nat.le_refl _⟩
theorem fol_old (h : FolL w rec H0 H F kvs ds) (hv : lookM kvs (rec a).af = some (.ref l)) : FolL w rec H0 (upd H l (.lst ((chl rec ds (rec a).af).map V.ref ++ [.ref a]))) F kvs (ds ++ [a]) := by
  obtain ⟨l', e, nl, hl⟩ := h.ls _ _ hv
  cases e
  have ne : ∀ {b : Addr} {o : HO}, H b = some o → (∀ xs, o ≠ .lst xs) → b ≠ l := fun {b o} q n z => by
    rw [z, hl] at q
    exact n _ (Option.some.inj q).symm
  refine ⟨⟨by rw [upd_ne (ne h.mx.at_ fun _ z => nomatch z)]; exact h.mx.at_, fun e m => kmv_pres (fun b xs q => by rw [upd_ne (ne q fun _ z => nomatch z)]; exact q) (h.mx.key e m), h.mx.val, h.mx.nd⟩, fun k v q => ?_, fun k q => ?_, h.inj, by rw [List.length_append]; exact Nat.le_succ_of_le h.len⟩
  · obtain ⟨l2, rfl, n2, r2⟩ := h.ls k v q
    refine ⟨l2, rfl, n2, ?_⟩
    rw [chl_app]
    by_cases ek : (rec a).af = k
    · subst ek
      rw [hv] at q
      cases q
      rw [upd_same, if_pos rfl, List.map_append]
      rfl
    · have nl2 : l2 ≠ l := fun z => ek (h.inj _ _ _ hv (by rw [← z]; exact q))
      rw [upd_ne nl2, if_neg ek, List.append_nil]
      exact r2
  · have ek : (rec a).af ≠ k := fun z => by
      rw [z] at hv
      rw [hv] at q
      cases q
    rw [chl_app, if_neg ek, List.append_nil]
    exact h.no k q
theorem fol_new (h : FolL w rec H0 H F kvs ds) (hv : lookM kvs (rec a).af = none) (km : KmV H va (rec a).af) (ht : H t = some (.lst [])) (nt : H0 t = none) (fresh : ∀ k v, lookM kvs k = some v → v ≠ .ref t) :
    FolL w rec H0 (upd (upd H F (MxO w F (kvs ++ [((rec a).af, va, .ref t)]))) t (.lst [.ref a])) F (kvs ++ [((rec a).af, va, .ref t)]) (ds ++ [a]) := by
  have tF : t ≠ F := fun z => by
    rw [z, h.mx.at_] at ht
    cases ht
  have tup : ∀ b xs, H b = some (.tup xs) → (upd (upd H F (MxO w F (kvs ++ [((rec a).af, va, .ref t)]))) t (.lst [.ref a])) b = some (.tup xs) := fun b xs q => by
    rw [upd_ne (fun z => by rw [z, ht] at q; cases q), upd_ne (fun z => by rw [z, h.mx.at_] at q; cases q)]
    exact q
  have nk : ∀ e ∈ kvs, e.1 ≠ (rec a).af := fun e m z => by
    unfold lookM at hv
    cases hf : kvs.find? fun e => decide (e.1 = (rec a).af) with
    | none =>
      have q := List.find?_eq_none.mp hf e m
      exact q (decide_eq_true z)
    | some x =>
      rw [hf] at hv
      cases hv
  refine ⟨⟨by rw [upd_ne (Ne.symm tF), upd_same], fun e m => ?_, fun e m => ?_, ?_⟩, fun k v q => ?_, fun k q => ?_, fun k k' v q q' => ?_, by rw [List.length_append, List.length_append]; exact Nat.add_le_add_right h.len 1⟩
  · rcases List.mem_append.mp m with m | m
    · exact kmv_pres tup (h.mx.key e m)
    · rw [List.mem_singleton.mp m]
      exact kmv_pres tup km
  · rcases List.mem_append.mp m with m | m
    · exact h.mx.val e m
    · rw [List.mem_singleton.mp m]
      trivial
  · rw [List.map_append]
    refine List.nodup_append.mpr ⟨h.mx.nd, by simp, fun x hx y hy e => ?_⟩
    obtain ⟨e0, m0, rfl⟩ := List.mem_map.mp hx
    have y2 : y = (rec a).af := List.mem_singleton.mp hy
    exact nk e0 m0 (e.trans y2)
  · rw [look_app hv] at q
    by_cases ek : (rec a).af = k
    · rw [if_pos ek] at q
      cases q
      refine ⟨t, rfl, nt, ?_⟩
      have z := h.no _ hv
      rw [ek] at z
      rw [upd_same, chl_app, if_pos ek, z]
      rfl
    · rw [if_neg ek] at q
      obtain ⟨l2, rfl, n2, r2⟩ := h.ls k v q
      refine ⟨l2, rfl, n2, ?_⟩
      rw [upd_ne (fun z => fresh _ _ q (by rw [z])), upd_ne (fun z => by rw [z, h.mx.at_] at r2; cases r2), chl_app, if_neg ek, List.append_nil]
      exact r2
  · rw [look_app hv] at q
    by_cases ek : (rec a).af = k
    · rw [if_pos ek] at q
      cases q
    · rw [if_neg ek] at q
      rw [chl_app, if_neg ek, List.append_nil]
      exact h.no k q
  · rw [look_app hv] at q q'
    by_cases ek : (rec a).af = k
    · by_cases ek' : (rec a).af = k'
      · exact ek.symm.trans ek'
      · rw [if_pos ek] at q
        rw [if_neg ek'] at q'
        cases q
        exact absurd rfl (fresh _ _ q')
    · by_cases ek' : (rec a).af = k'
      · rw [if_neg ek] at q
        rw [if_pos ek'] at q'
        cases q'
        exact absurd rfl (fresh _ _ q)
      · rw [if_neg ek] at q
        rw [if_neg ek'] at q'
        exact h.inj k k' v q q'
end
def spRio (K : PySem.W.Frag) (CL C : Addr) (rec : Addr → Rc) : Sp := fun vs H Q _ => ∃ (J L : Addr) (ns : List Str) (bl : Str → List Str) (as : List Addr) (can : MKey → List Addr) (n : Nat) (out : List Addr), vs = [.ref J, .ref L] ∧ LvAt CL H J ns bl ∧ LvOk ns bl ∧ SqL K H L (as.map V.ref) ∧ Recs K C H rec as ∧ (∀ a ∈ as, MkOk ns (rec a).ky) ∧
  as.length ≤ 400 ∧ n ≤ 400 ∧ (∀ a ∈ as, FolOk ns bl (kvA rec (dedA as)) (rec a)) ∧ (∀ k, (can k).Perm (chl rec (dedA as) k) ∧ (can k).Pairwise fun a b => ltR (rowF ns (rec a)) (rowF ns (rec b)) = true) ∧ runC rec can n (can .non) = some out ∧
  ∀ p H', H p = none → Ex H H' → H' p = some (.lst (out.map V.ref)) → Q (.ref p) H'
section
variable {P : Program} {w : World} {K : PySem.W.Frag} {mg : Str → Option Value} {base : Heap} {f CL C D1 : Addr} {fd : FuncData}
def NQ : List Str := ["levels", "records", "found", "followers", "mark", "rows", "waiting"]
theorem scRio : FnScope NQ ["levels", "records"] (defScope sRio) := ⟨rfl, rfl, rfl, by decide +kernel, rfl, by decide +kernel, by decide +kernel⟩
def WQ (rec : Addr → Rc) (can : MKey → List Addr) (J L D F R Wt : Addr) (Hb : Hp) (ds out : List Addr) (m : Nat) : L2.St → Hp → Prop := fun σ' H' => ∃ (st out' rest : List Addr) (ms : List V) (om : Option V), σ' = [some (.ref J), some (.ref L), some (.ref D), some (.ref F), om, some (.ref R), some (.ref Wt)] ∧ Ex Hb H' ∧ H' R = some (.lst (out'.map V.ref)) ∧ H' Wt = some (.lst ms.reverse) ∧ MrkL rec H' ms st ∧ runC rec can m st = some rest ∧ out = out' ++ rest ∧ out'.length + m ≤ 400 ∧ ∀ a ∈ st, a ∈ ds
theorem MrkL.app {rec : Addr → Rc} {H : Hp} {ms ms2 : List V} {as as2 : List Addr} (h : MrkL rec H ms as) (h2 : MrkL rec H ms2 as2) : MrkL rec H (ms ++ ms2) (as ++ as2) := by
  induction h with
  | nil => exact h2
  | cons h _ ih => exact .cons h ih
theorem q_te {te : TE} {tz : TS} {i : Nat} {D : Ends} {σ : L2.St} {H : Hp} (h : te σ H fun v H1 => tz D (σ.set i (some v)) H1) : tSeq (tAsg te (gName i)) tz D σ H := h
theorem fio_ev {rec : Addr → Rc} {H0 Hb : Hp} {σ : L2.St} {J F : Addr} {kvs : List MEnt} {ds can : List Addr} {k : MKey} {y : V} {ty : TE} {ns : List Str} {bl : Str → List Str} {Q : VK} (fl : FolL w rec H0 Hb F kvs ds) (h0 : σ[0]? = some (some (.ref J))) (h3 : σ[3]? = some (some (.ref F)))
    (lv : LvAt CL Hb J ns bl) (ok : LvOk ns bl) (hy : Ev ty σ Hb y) (km : KmV Hb y k) (rs : ∀ a ∈ ds, RecAt K C Hb a (rec a)) (mo : ∀ a ∈ ds, MkOk ns (rec a).ky) (nd : ds.Nodup) (len : ds.length ≤ 900) (pm : can.Perm (chl rec ds k)) (pw : can.Pairwise fun a b => ltR (rowF ns (rec a)) (rowF ns (rec b)) = true)
    (q : ∀ p ms H', Hb p = none → Ex Hb H' → H' p = some (.lst ms.reverse) → MrkL rec H' ms can → Q (.ref p) H') : tRevL K (tCall (spFio K CL C rec) [] E0 (tCons (tVar 0) (tCons (tDGetM w (tVar 3) ty (tLst tNil)) tNil))) σ Hb Q := by
  refine ⟨_, h0, _, h3, F, rfl, ⟨kvs, fl.mx⟩, hy Hb (Ex.refl _) _ fun H2 e2 => ⟨Nat.zero_le _, fun t nt => ?_⟩⟩
  have e3 : Ex Hb (upd H2 t (.lst [])) := e2.trans (Ex.new nt)
  have fl3 := fl.ext e3
  refine ⟨kvs, k, fl3.mx, km.ext e3, ?_⟩
  obtain ⟨L, eL, hL⟩ : ∃ L, (lookM kvs k).getD (.ref t) = .ref L ∧ (upd H2 t (.lst [])) L = some (.lst ((chl rec ds k).map V.ref)) := by
    cases hz : lookM kvs k with
    | none =>
      rw [fl.no k hz]
      exact ⟨t, rfl, upd_same⟩
    | some v =>
      obtain ⟨l, rfl, _, hl⟩ := fl3.ls k v hz
      exact ⟨l, rfl, hl⟩
  have sub : ∀ a ∈ chl rec ds k, a ∈ ds := fun a m => (List.mem_filter.mp m).1
  refine ⟨J, L, ns, bl, chl rec ds k, can, by rw [eL]; rfl, lv.ext e3, ok, sq_of hL, fun a m => (rs a (sub a m)).ext e3, fun a m => mo a (sub a m), nd.filter _, Nat.le_trans (List.length_filter_le ..) len, pm, pw, fun p ms H' np e' hp mk => ?_⟩
  refine ⟨p, ms, rfl, sq_of hp, fun p' np' => ?_⟩
  exact q p' ms _ (fresh_back (e3.trans e') np') ((e3.trans e').trans (Ex.new np')) upd_same (mk.ext (Ex.new np'))
theorem ok_rio {rec : Addr → Rc} (F : Fun K "records_in_order" "records_in_order" sRio f fd) (c : RcC K C) (cl : LvC K CL) (BR : InvE P w K mg base "BadRecords" D1) (BM : Dx P w K mg base "records_by_mark" ["records"] 3 (spByMark K C rec)) (FW : Dx P w K mg base "follows_well" ["levels", "record", "found"] 5 (spFol K CL C))
    (FI : Df P w K mg base "followers_in_order" ["levels", "records"] 2 (spFio K CL C rec)) : FnOk P w K mg base (L2.CX P w) 6 f fd ["levels", "records"] (spRio K CL C rec) := by
  refine F.okX scRio (fun vs H Q E h => ?_) (fun cdv A outer s H vs Q E hr h => ?_)
  · obtain ⟨J, L, ns, bl, as, can, n, out, rfl, _⟩ := h
    rfl
  · obtain ⟨J, L, ns, bl, as, can, n, out, rfl, lv, ok, hL, rs, mo, len, nn, fo, pm, run, kQ⟩ := h
    have hu := hu_of hr
    have hu9 : (A.deeper (envOfC (Str.ofString "records_in_order") (defScope sRio) s.heap.objs.size f cdv)).units + 9 < cLine := Nat.lt_of_le_of_lt (by omega) hr.units
    have hr5 : Room 5 _ := hr
    have hr3 : Room 3 _ := hr5.mono (by decide)
    have hr2 : Room 2 _ := hr5.mono (by decide)
    refine ⟨_, (pss_cons (ps_set (i := 2) scRio.nd rfl (Or.inl rfl) (pe_dx BM hr3 (by rfl) ownPass (pa_cons (pv 1) pa_nil)))
        (pss_cons (ps_set (i := 3) scRio.nd rfl (Or.inl rfl) pe_dnewM)
        (pss_cons (ps_lock (ps_for PassesOwn.leaving rfl (pi_keys (pv 2)) (pg_name (i := 4) scRio.nd rfl (Or.inl rfl)) (pss_cons (ps_if (pt_not (pt_val (pe_dx FW hr5 (by rfl) ownPass (pa_cons (pv 0) (pa_cons (pe_dget hu (pv 2) (pv 4) (fun _ _ => rfl)) (pa_cons (pv 2) pa_nil)))))) (pss_one (ps_raise rfl (takes_of rfl rfl rfl rfl) (pmk_invE BR hr2 rfl (pv 4)))) pss_nil)
        (pss_one (ps_expr (pe_bm PySem.F.plainAttrs_list PySem.F.slot_list_append PySem.F.type_list_append mt_append (pe_dsetM hu9 (pv 3) (pe_fld (pe_dget hu (pv 2) (pv 4) (fun _ _ => rfl)) rfl) (pe_lst pa_nil) (by exact ⟨rfl, rfl, rfl, rfl⟩)) (pa_cons (pe_dget hu (pv 2) (pv 4) (fun _ _ => rfl)) pa_nil)))))))
        (pss_cons (ps_set (i := 5) scRio.nd rfl (Or.inl rfl) (pe_lst pa_nil))
        (pss_cons (ps_set (i := 6) scRio.nd rfl (Or.inl rfl) (pe_revL (pe_df FI hr2 (by rfl) (pa_cons (pv 0) (pa_cons (pe_dgetM hu9 (pv 3) pe_non (pe_lst pa_nil) (by exact ⟨rfl, rfl, rfl, rfl⟩)) pa_nil)))))
        (pss_cons (ps_while PassesOwn.leaving (pt_truth (pv 6) (fun _ => rfl)) (pss_cons (ps_set (i := 4) scRio.nd rfl (Or.inl rfl) (pe_bm0 PySem.F.plainAttrs_list PySem.F.slot_list_pop PySem.F.type_list_pop mt_pop (pv 6)))
        (pss_cons (ps_expr (pe_bm PySem.F.plainAttrs_list PySem.F.slot_list_append PySem.F.type_list_append mt_append (pv 5) (pa_cons (pe_dget hu (pv 2) (pv 4) (fun _ _ => rfl)) pa_nil)))
        (pss_one (ps_expr (pe_bm PySem.F.plainAttrs_list PySem.F.slot_list_extend PySem.F.type_list_extend mt_extend (pv 6) (pa_cons (pe_revL (pe_df FI hr2 (by rfl) (pa_cons (pv 0) (pa_cons (pe_dgetM hu9 (pv 3) (pv 4) (pe_lst pa_nil) (by exact ⟨rfl, rfl, rfl, rfl⟩)) pa_nil)))) pa_nil)))))))
        (pss_one (ps_ret (pv 5))))))))), ?_⟩
    have LD : ∀ {H'}, Ex H H' → SqL K H' L (as.map V.ref) := fun e => ex_l e hL
    refine ⟨_, rfl, L, as, rfl, hL, rs, by omega, fun D H1 nD e1 hD => ?_⟩
    intro F nF
    have nF0 : H F = none := fresh_back e1 nF
    have DF : D ≠ F := ne_of_none hD nF
    have mem : ∀ {a}, a ∈ dedA as → a ∈ as := fun h => mem_ded.mp h
    have dlen : (dedA as).length ≤ as.length := by
      have := ded_len as []
      unfold dedA
      simpa using this
    have dinj : ∀ a ∈ dedA as, ∀ b ∈ dedA as, (rec a).ky = (rec b).ky → a = b := fun a ha b hb => rs.inj a (mem ha) b (mem hb)
    refine ⟨D, .dT (kvA rec (dedA as)), by rw [upd_ne DF]; exact hD, trivial, fun od => ?_⟩
    refine ⟨_, rfl, D, od, rfl, .inr ⟨_, upd_same, ?_⟩⟩
    refine for_it walk_keysT (fun i σ' H' => (∃ o : Option V, σ' = [some (.ref J), some (.ref L), some (.ref D), some (.ref F), o, none, none]) ∧ Ex H H' ∧ H' D = some (.frz od (.dT (kvA rec (dedA as)))) ∧ ∃ kvs, FolL w rec H H' F kvs ((dedA as).take i)) ?_ (fun i σ' H' _ h => h.2.2.1) ?_ ?_
    · refine ⟨⟨_, rfl⟩, fun b o hb => ?_, upd_same, [], ?_⟩
      · rw [upd_ne (ne_of_none hb nD), upd_ne (ne_of_none hb nF0)]
        exact e1 b o hb
      · exact fol_nil (by rw [upd_ne (Ne.symm DF), upd_same]; rfl)
    · rintro i x σ' H' H'' hi ⟨⟨o, rfl⟩, e, hD', kvs, fl⟩ ⟨eH, k, v, q, hk, rfl, hq⟩
      have eH2 := eH.symm
      subst eH2
      obtain ⟨a, ha, e3⟩ : ∃ a, (dedA as)[i]? = some a ∧ ((rec a).ky, V.ref a) = (k, v) := by
        unfold kvA at hk
        rw [List.getElem?_map] at hk
        cases hz : (dedA as)[i]? with
        | none =>
          rw [hz] at hk
          cases hk
        | some s =>
          rw [hz] at hk
          exact ⟨s, rfl, Option.some.inj hk⟩
      cases e3
      have mad := List.mem_of_getElem? ha
      have ma := mem mad
      have tk : (dedA as).take (i + 1) = (dedA as).take i ++ [a] := by
        rw [List.take_add_one, ha]
        rfl
      have evF : Ev (tDGet (tVar 2) (tVar 4)) ([some (.ref J), some (.ref L), some (.ref D), some (.ref F), some (.ref q), none, none] : L2.St) H' (.ref a) := fun H2 e2 Q qq => ⟨_, rfl, _, rfl, D, .ref a, rfl, .inr ⟨_, _, q, .inr ⟨od, e2 _ _ hD'⟩, rfl, e2 _ _ hq, (kvA_get dinj mad).symm⟩, qq H2 (Ex.refl _)⟩
      have evW : Ev (tCall (spFol K CL C) [] E (tCons (tVar 0) (tCons (tDGet (tVar 2) (tVar 4)) (tCons (tVar 2) tNil)))) ([some (.ref J), some (.ref L), some (.ref D), some (.ref F), some (.ref q), none, none] : L2.St) H' (.bl true) := fun H2 e2 Q qq =>
        ⟨_, rfl, evF H2 e2 _ fun H3 e3 => ⟨_, rfl, J, a, D, rec a, kvA rec (dedA as), ns, bl, rfl, lv.ext ((e.trans e2).trans e3), ok, (rs.at_ a ma).ext ((e.trans e2).trans e3), .inr ⟨od, (e2.trans e3) _ _ hD'⟩, fo a ma, fun H4 e4 => qq H4 (e3.trans e4)⟩⟩
      refine q_when (b := !true) (et_not (et_B evW)) (fun z => by cases z) fun _ H2 e2 => ?_
      obtain ⟨dx, m, va, vt, h1, h2, h3, h4⟩ := (rs.at_ a ma).ext (e.trans e2)
      refine ⟨_, rfl, F, rfl, ⟨kvs, (fl.ext e2).mx⟩, evF H2 e2 _ fun H3 e3 => ⟨a, C, dx, _, va, rfl, e3 _ _ h1, c.cl, c.n3, rfl, Nat.zero_le _, fun t nt => ?_⟩⟩
      have e4 : Ex H3 (upd H3 t (.lst [])) := Ex.new nt
      have ee : Ex H' (upd H3 t (.lst [])) := (e2.trans e3).trans e4
      have fl4 := fl.ext ee
      have nt0 : H t = none := fresh_back ((e.trans e2).trans e3) nt
      have dl : (dedA as).length ≤ 400 := Nat.le_trans dlen len
      have lk : kvs.length < 1000 := by
        have := fl.len
        rw [List.length_take] at this
        omega
      refine ⟨kvs, (rec a).af, fl4.mx, h3.ext (e3.trans e4), trivial, lk, fun u hu2 => ?_, fun hn => ?_⟩
      · obtain ⟨l, rfl, nl, hl⟩ := fl4.ls _ _ hu2
        refine ⟨.inl ⟨rfl, _, sq_of hl⟩, evF _ ee _ fun H5 e5 => ⟨l, _, .ref a, rfl, rfl, e5 _ _ hl, sz_lt ?_, ?_⟩⟩
        · rw [List.length_map]
          have z : (chl rec ((dedA as).take i) (rec a).af).length ≤ ((dedA as).take i).length := List.length_filter_le ..
          rw [List.length_take] at z
          omega
        · refine ⟨⟨_, rfl⟩, fun b o hb => ?_, ?_, kvs, ?_⟩
          · rw [upd_ne (ne_of_none hb nl)]
            exact ((e.trans ee).trans e5) b o hb
          · have z := (ee.trans e5) _ _ hD'
            rw [upd_ne (fun w => by rw [w, e5 _ _ hl] at z; cases z)]
            exact z
          · rw [tk]
            exact fol_old (fl4.ext e5) hu2
      · have ht : (upd H3 t (HO.lst [])) t = some (.lst []) := upd_same
        have tF : t ≠ F := fun z => by
          have q2 := fl4.mx.at_
          rw [← z, ht] at q2
          cases q2
        have hFt : (upd (upd H3 t (HO.lst [])) F (MxO w F (kvs ++ [((rec a).af, va, .ref t)]))) t = some (.lst []) := by
          rw [upd_ne tF]
          exact ht
        have e5F : ∀ {b : Addr} {o : HO}, b ≠ F → (upd H3 t (HO.lst [])) b = some o → (upd (upd H3 t (HO.lst [])) F (MxO w F (kvs ++ [((rec a).af, va, .ref t)]))) b = some o := fun n h => by
          rw [upd_ne n]
          exact h
        have hD5 : (upd (upd H3 t (HO.lst [])) F (MxO w F (kvs ++ [((rec a).af, va, .ref t)]))) D = some (.frz od (.dT (kvA rec (dedA as)))) := e5F DF (ee _ _ hD')
        have hq5 : (upd (upd H3 t (HO.lst [])) F (MxO w F (kvs ++ [((rec a).af, va, .ref t)]))) q = some (.tup ((rec a).ky.map kV)) := e5F (fun z => by
          have q2 := fl4.mx.at_
          rw [← z, ee _ _ hq] at q2
          cases q2) (ee _ _ hq)
        refine ⟨.inl ⟨rfl, _, sq_of hFt⟩, _, rfl, _, rfl, D, .ref a, rfl, .inr ⟨_, _, q, .inr ⟨od, hD5⟩, rfl, hq5, (kvA_get dinj mad).symm⟩, t, [], .ref a, rfl, rfl, hFt, sz_lt (by decide), ?_⟩
        refine ⟨⟨_, rfl⟩, fun b o hb => ?_, ?_, kvs ++ [((rec a).af, va, .ref t)], ?_⟩
        · rw [upd_ne (ne_of_none hb nt0)]
          have z := (e.trans ee) b o hb
          exact e5F (ne_of_none hb nF0) z
        · rw [upd_ne (fun w => by rw [w, hFt] at hD5; cases hD5)]
          exact hD5
        · rw [tk]
          exact fol_new fl4 hn (h3.ext (e3.trans e4)) ht nt0 fun k v hv z => by
            obtain ⟨l, e, _, hl⟩ := (fl.ext (e2.trans e3)).ls _ _ hv
            rw [z] at e
            cases e
            rw [nt] at hl
            cases hl
    · rintro σ' H' ⟨⟨o, rfl⟩, e, hD', kvs, fl⟩
      refine ⟨hD', ?_⟩
      have kl : (kvA rec (dedA as)).length = (dedA as).length := by
        unfold kvA
        rw [List.length_map]
      rw [kl, List.take_length] at fl
      have ub : ∀ b o, H' b = some o → (∀ od u, o ≠ .frz od u) → (upd H' D (.dT (kvA rec (dedA as)))) b = some o := fun b o hb n => by
        rw [upd_ne (fun z => by rw [z, hD'] at hb; exact n _ _ (Option.some.inj hb).symm)]
        exact hb
      have fl1 := fl.pres ub
      have eb : Ex H (upd H' D (.dT (kvA rec (dedA as)))) := fun b o hb => by
        rw [upd_ne (ne_of_none hb nD)]
        exact e b o hb
      have hDb : (upd H' D (.dT (kvA rec (dedA as)))) D = some (.dT (kvA rec (dedA as))) := upd_same
      generalize upd H' D (.dT (kvA rec (dedA as))) = Hb at fl1 eb hDb ⊢
      refine ⟨Nat.zero_le _, fun R nR => ?_⟩
      have eR : Ex Hb (upd Hb R (.lst [])) := Ex.new nR
      have dlen4 : (dedA as).length ≤ 900 := by omega
      show tSeq (tAsg (tRevL K (tCall (spFio K CL C rec) [] E0 (tCons (tVar 0) (tCons (tDGetM w (tVar 3) (tC .non) (tLst tNil)) tNil)))) (gName 6)) _ _ [some (.ref J), some (.ref L), some (.ref D), some (.ref F), o, some (.ref R), none] (upd Hb R (.lst []))
      refine q_te (fio_ev (K := K) (CL := CL) (C := C) (σ := [some (.ref J), some (.ref L), some (.ref D), some (.ref F), o, some (.ref R), none]) (ty := tC .non) (fl1.ext eR) rfl rfl (lv.ext (eb.trans eR)) ok (ev_c (v := .non)) (k := .non) True.intro (fun a m => (rs.at_ a (mem m)).ext (eb.trans eR)) (fun a m => mo a (mem m)) (ded_nd as) dlen4 (pm .non).1 (pm .non).2 fun Wt ms H2 nW e2 hW mk => ?_)
      have nWb : Hb Wt = none := fresh_back eR nW
      have RW : R ≠ Wt := ne_of_none (upd_same (H := Hb) (a := R) (o := .lst [])) nW
      refine q_while (WQ rec can J L D F R Wt Hb (dedA as) out) n ?_ ?_
      · exact ⟨can .non, [], out, ms, _, rfl, eR.trans e2, e2 _ _ upd_same, hW, mk, run, rfl, by simpa using nn, fun a m => (List.mem_filter.mp ((pm .non).1.mem_iff.mp m)).1⟩
      · rintro m σ' H' ⟨st, out', rest, ms, om, rfl, eB, hR, hW, mk, hrun, ho, hm, hst⟩
        have hlen := runC_len hrun
        have hml := mk.len
        refine ⟨!ms.reverse.isEmpty, fun H1 e1 Q q => ⟨_, rfl, _, .inl ⟨_, sq_of (e1 _ _ hW), rfl⟩, q H1 (Ex.refl _)⟩, fun hb H1 e1 => ?_, fun hb H1 e1 => ?_⟩
        · cases mk with
          | nil => cases hb
          | cons hq mk' =>
            rename_i q a ms' s
            cases m with
            | zero => cases hrun
            | succ n' =>
              have hrun' : (runC rec can n' (can (.tup (rec a).ky) ++ s)).map (a :: ·) = some rest := hrun
              cases hz : runC rec can n' (can (.tup (rec a).ky) ++ s) with
              | none =>
                rw [hz] at hrun'
                cases hrun'
              | some rest' =>
                rw [hz] at hrun'
                cases hrun'
                refine ⟨WQ rec can J L D F R Wt Hb (dedA as) out n', fun σ2 H2 w => ⟨n', Nat.lt_succ_self _, w⟩, ?_⟩
                have mad : a ∈ dedA as := hst a (List.mem_cons_self ..)
                have hW1 := e1 _ _ hW
                have dl : (V.ref q :: ms').reverse.dropLast = ms'.reverse := by rw [List.reverse_cons, List.dropLast_concat]
                refine ⟨_, rfl, .inl ⟨rfl, _, sq_of hW1⟩, Wt, _, .ref q, rfl, rfl, hW1, ?_, ?_⟩
                · rw [List.reverse_cons]
                  simp
                rw [dl]
                have hW2 : (upd H1 Wt (.lst ms'.reverse)) Wt = some (.lst ms'.reverse) := upd_same
                have hR2 : (upd H1 Wt (.lst ms'.reverse)) R = some (.lst (out'.map V.ref)) := by
                  rw [upd_ne RW]
                  exact e1 _ _ hR
                have tup2 : ∀ b xs, H1 b = some (.tup xs) → (upd H1 Wt (.lst ms'.reverse)) b = some (.tup xs) := fun b xs hb => by
                  rw [upd_ne (fun z => by rw [z, hW1] at hb; cases hb)]
                  exact hb
                have mk2 : MrkL rec (upd H1 Wt (.lst ms'.reverse)) ms' s := mrk_pres tup2 (mk'.ext e1)
                have hq2 : (upd H1 Wt (.lst ms'.reverse)) q = some (.tup ((rec a).ky.map kV)) := tup2 _ _ (e1 _ _ hq)
                have eB2 : Ex Hb (upd H1 Wt (.lst ms'.reverse)) := fun b o hb => by
                  rw [upd_ne (ne_of_none hb nWb)]
                  exact (eB.trans e1) b o hb
                generalize upd H1 Wt (.lst ms'.reverse) = H2 at hW2 hR2 mk2 hq2 eB2 ⊢
                have ol : out'.length < 100000 := by omega
                refine ⟨_, rfl, .inl ⟨rfl, _, sq_of hR2⟩, _, rfl, _, rfl, D, .ref a, rfl, .inr ⟨_, _, q, .inl (eB2 _ _ hDb), rfl, hq2, (kvA_get dinj mad).symm⟩, R, _, .ref a, rfl, rfl, hR2, sz_lt (by rw [List.length_map]; exact ol), ?_⟩
                have eq3 : (out' ++ [a]).map V.ref = out'.map V.ref ++ [.ref a] := List.map_append ..
                have hR3 : (upd H2 R (.lst (out'.map V.ref ++ [.ref a]))) R = some (.lst ((out' ++ [a]).map V.ref)) := by rw [upd_same, eq3]
                have hW3 : (upd H2 R (.lst (out'.map V.ref ++ [.ref a]))) Wt = some (.lst ms'.reverse) := by
                  rw [upd_ne (Ne.symm RW)]
                  exact hW2
                have tup3 : ∀ b xs, H2 b = some (.tup xs) → (upd H2 R (.lst (out'.map V.ref ++ [.ref a]))) b = some (.tup xs) := fun b xs hb => by
                  rw [upd_ne (fun z => by rw [z, hR2] at hb; cases hb)]
                  exact hb
                have mk3 := mrk_pres tup3 mk2
                have hq3 := tup3 _ _ hq2
                have eB3 : Ex Hb (upd H2 R (.lst (out'.map V.ref ++ [.ref a]))) := fun b o hb => by
                  rw [upd_ne (ne_of_none hb nR)]
                  exact eB2 b o hb
                generalize upd H2 R (.lst (out'.map V.ref ++ [.ref a])) = H3 at hR3 hW3 mk3 hq3 eB3 ⊢
                refine ⟨_, rfl, .inl ⟨rfl, _, sq_of hW3⟩, ?_⟩
                refine fio_ev (K := K) (CL := CL) (C := C) (σ := [some (.ref J), some (.ref L), some (.ref D), some (.ref F), some (.ref q), some (.ref R), some (.ref Wt)]) (ty := tVar 4) (k := .tup (rec a).ky) (fl1.ext eB3) rfl rfl (lv.ext (eb.trans eB3)) ok (ev_var rfl) hq3 (fun a m => (rs.at_ a (mem m)).ext (eb.trans eB3)) (fun a m => mo a (mem m)) (ded_nd as) dlen4 (pm _).1 (pm _).2 fun p ms2 H4 np e4 hp mk4 => ?_
                have l2 := runC_len hz
                rw [List.length_append] at l2
                have ml4 := mk4.len
                have ml3 := mk3.len
                have hW4 := e4 _ _ hW3
                refine ⟨Wt, p, ms'.reverse, ms2.reverse, rfl, rfl, hW4, hp, sz_of (by rw [List.length_reverse, List.length_reverse]; omega), ?_⟩
                have tup4 : ∀ b xs, H4 b = some (.tup xs) → (upd H4 Wt (.lst (ms'.reverse ++ ms2.reverse))) b = some (.tup xs) := fun b xs hb => by
                  rw [upd_ne (fun z => by rw [z, hW4] at hb; cases hb)]
                  exact hb
                refine ⟨can (.tup (rec a).ky) ++ s, out' ++ [a], rest', ms2 ++ ms', _, rfl, fun b o hb => ?_, ?_, ?_, mrk_pres tup4 (mk4.app (mk3.ext e4)), hz, ?_, ?_, fun x hx => ?_⟩
                · rw [upd_ne (ne_of_none hb nWb)]
                  exact (eB3.trans e4) b o hb
                · rw [upd_ne RW]
                  exact e4 _ _ hR3
                · rw [upd_same, List.reverse_append]
                · rw [ho, List.append_assoc]
                  rfl
                · rw [List.length_append, List.length_singleton]
                  omega
                · rcases List.mem_append.mp hx with hx | hx
                  · exact (List.mem_filter.mp ((pm _).1.mem_iff.mp hx)).1
                  · exact hst x (List.mem_cons_of_mem _ hx)
        · cases mk with
          | cons hq mk' => simp at hb
          | nil =>
            have z : rest = [] := by
              cases m with
              | zero => exact (Option.some.inj hrun).symm
              | succ n' => exact (Option.some.inj hrun).symm
            refine ⟨_, rfl, kQ R H1 (fresh_back eb nR) ((eb.trans eB).trans e1) ?_⟩
            rw [ho, z, List.append_nil]
            exact e1 _ _ hR
end
end K54
set_option maxHeartbeats 8000000
namespace K54
open PySem PySem.Spec PyProof.Rows L2 Evl My LamX
abbrev sDraws : Stmt := top 23
def ilst (ns : List Int) : List PyData := ns.map PyData.int
theorem dds_ints {K : PySem.W.Frag} {H : Hp} : ∀ ns : List Int, Dds K H (ns.map V.int) (ilst ns)
  | [] => .nil
  | n :: ns => .cons (.int n) (dds_ints ns)
theorem nd_ints : ∀ ns : List Int, noDicts (ilst ns) = true
  | [] => rfl
  | n :: ns => by
    show (noDict (.int n) && noDicts (ilst ns)) = true
    rw [nd_ints ns]
    rfl
theorem lay_ints : ∀ ns : List Int, PyData.canLayAll0 (ilst ns) = true
  | [] => rfl
  | n :: ns => by
    show (PyData.canLay0 (.int n) && PyData.canLayAll0 (ilst ns)) = true
    rw [lay_ints ns]
    rfl
theorem dep_ints : ∀ ns : List Int, PyData.depthAll (ilst ns) = 0
  | [] => rfl
  | n :: ns => by
    show max (PyData.depth (.int n)) (PyData.depthAll (ilst ns)) = 0
    rw [dep_ints ns]
    rfl
theorem shaped_ints (ns : List Int) : SeqAt.shaped (.list (ilst ns)) = true := by
  have h1 : (PyData.list (ilst ns)).canLay0 = true := lay_ints ns
  have h2 : (PyData.list (ilst ns)).depth ≤ 64 := by
    show PyData.depthAll (ilst ns) + 1 ≤ 64
    rw [dep_ints]
    decide
  unfold SeqAt.shaped
  rw [h1, decide_eq_true h2]
  rfl
theorem etGe {σ : L2.St} {H : Hp} {ta tb : TE} {i j : Int} (ha : Ev ta σ H (.int i)) (hb : Ev tb σ H (.int j)) : EvT (tTest (tOp (rI0 fun i j => .bl (decide (j ≤ i))) ta tb)) σ H (decide (j ≤ i)) := et_test (ev_op ha hb rv_I0)
section
variable {P : Program} {w : World} {K : PySem.W.Frag} {mg : Str → Option Value} {base : Heap} {f : Addr} {fd : FuncData}
def ND : List Str := ["_law_script", "_law_k", "_law_cell", "_law_seed"]
theorem scDraws : FnScope ND ["_law_script", "_law_k"] (defScope sDraws) := ⟨rfl, rfl, rfl, by decide +kernel, rfl, by decide +kernel, by decide +kernel⟩
theorem ok_draws (F : Fun K "_law_draws" "_law_draws" sDraws f fd) (T : mg "len" = none) (TI : mg "int" = none) : FnOk P w K mg base CX0 1 f fd ["_law_script", "_law_k"] (spPool K) := by
  refine F.ok scDraws (fun vs H Q E h => ?_) (fun cdv A outer s H vs Q E hr h => ?_)
  · obtain ⟨a, ns, k, rfl, _⟩ := h
    rfl
  · obtain ⟨a, ns, k, rfl, hS, hlen, k63, kQ⟩ := h
    refine ⟨_, pss_cons (ps_set (i := 2) scDraws.nd rfl (Or.inl rfl) pe_int)
      (pss_cut (ps_if (pt_cmpR (op_neD hr.units) (pv 0) (pe_lst pa_nil) (nomark _)) (pss_one (ps_set (i := 2) scDraws.nd rfl (Or.inl rfl) (pe_ix ix_list (pv 0) (pe_op op_mod (pv 1) (pe_callB call_len_seq (by rfl) T PySem.boot_len (pa_cons (pv 0) pa_nil))) (fun _ _ => rfl)))) pss_nil)
      (pss_cut (ps_if (pt_cmpR op_ge (pv 1) (pe_callB call_len_seq (by rfl) T PySem.boot_len (pa_cons (pv 0) pa_nil)) (nomark _)) (pss_one (ps_set (i := 2) scDraws.nd rfl (Or.inl rfl) (pe_op op_mod (pv 2) pe_int))) pss_nil)
      (pss_cons (ps_set (i := 3) scDraws.nd rfl (Or.inl rfl) (pe_op op_mod (pe_op op_mul (pe_op op_add (pe_op op_add (pe_op op_mod (pv 2) pe_int) (pe_op op_mul pe_int (pv 1))) pe_int) pe_int) pe_int))
      (pss_one (ps_ret (pe_lst (pa_cons (pe_op op_mul (pv 2) (pe_callTy call_int1 (by rfl) TI (by decide +kernel) (pa_cons (pe_cmpR op_ge (pv 2) (pe_op op_pow pe_int pe_int) (nomark _)) pa_nil))) (pa_cons (pv 3) pa_nil)))))))), ?_⟩
    refine q_asg ev_c fun H1 e1 => ?_
    refine q_cut (M := fun σ' H' => ∃ c : Int, σ' = [some (.ref a), some (.int (k : Int)), some (.int c), none] ∧ Ex H H') ?_ ?_
    · have ne := ed_neD (σ := [some (.ref a), some (.int (k : Int)), some (.int 0), none]) (H := H1) (K := K) (ta := tVar 0) (tb := tLst tNil) (d := .list (ilst ns)) (e := .list []) (ed_var rfl (.lst (ex_l e1 hS) (dds_ints ns))) (fun H2 e2 Q q => ⟨Nat.zero_le _, fun p np => q (.ref p) _ (Ex.new np) (.lst (sq_of upd_same) .nil)⟩) (nd_ints ns) rfl (shaped_ints ns) rfl
      refine s_when (et_test ne) (fun hb H2 e2 => ?_) (fun hb H2 e2 => ⟨0, rfl, e1.trans e2⟩)
      have pos : 0 < ns.length := by
        cases ns with
        | nil =>
          have z : PyData.eqv (.list (ilst [])) (.list []) = true := by decide +kernel
          rw [z] at hb
          cases hb
        | cons n ns => exact Nat.succ_pos _
      have lt : k % ns.length < ns.length := Nat.mod_lt _ pos
      have get : atI (ns.map V.int) ((k : Int) % (ns.length : Int)) = some (V.int ns[k % ns.length]) := by
        have z : ((k : Int) % (ns.length : Int)) = ((k % ns.length : Nat) : Int) := by omega
        rw [z]
        refine atI_nat ?_
        rw [List.getElem?_map, List.getElem?_eq_getElem lt]
        rfl
      have evLen : Ev (tCB (rLenS K) (tCons (tVar 0) tNil)) ([some (.ref a), some (.int (k : Int)), some (.int 0), none] : L2.St) H2 (.int (ns.length : Int)) := ev_is (ev_len (K := K) (ev_var rfl) (ex_l (e1.trans e2) hS)) (by rw [List.length_map])
      exact s_asg (ev_op (ev_var rfl) (evMod (ev_var rfl) evLen (by omega)) (rv_ixL (ex_l (e1.trans e2) hS) get)) fun H3 e3 => ⟨ns[k % ns.length], rfl, (e1.trans e2).trans e3⟩
    · rintro σ' H2 ⟨c, rfl, e2⟩
      refine q_cut (M := fun σ' H' => ∃ c : Int, σ' = [some (.ref a), some (.int (k : Int)), some (.int c), none] ∧ Ex H H') ?_ ?_
      · refine s_when (etGe (ev_var rfl) (ev_len (ev_var rfl) (ex_l e2 hS))) (fun hb H3 e3 => ?_) (fun hb H3 e3 => ⟨c, rfl, e2.trans e3⟩)
        exact s_asg (evMod (ev_var rfl) ev_c (by decide)) fun H4 e4 => ⟨_, rfl, (e2.trans e3).trans e4⟩
      · rintro σ' H3 ⟨c, rfl, e3⟩
        refine q_asg (evMod (evMul (evAdd (evAdd (evMod (ev_var rfl) ev_c (by decide)) (evMul ev_c (ev_var rfl) (Or.inl (by decide)))) ev_c) ev_c (Or.inr (by decide))) ev_c (by decide)) fun H4 e4 => ?_
        generalize hx : ((c % 2147483629 + 104729 * (k : Int) + 11) * 48271) % 2147483647 = x
        have x01 : 0 ≤ x ∧ x < 2147483648 := by
          rw [← hx]
          exact ⟨Int.emod_nonneg _ (by decide), by have := Int.emod_lt_of_pos ((c % 2147483629 + 104729 * (k : Int) + 11) * 48271) (show (0 : Int) < 2147483647 by decide); omega⟩
        have evB : Ev (tCB (fun xs H Q => (∃ i, xs = [.int i] ∧ Q (.int i) H) ∨ ∃ k, xs = [.bl k] ∧ Q (.int (if k then 1 else 0)) H) (tCons (tOp (rI0 fun i j => .bl (decide (j ≤ i))) (tVar 2) (tOp (rI CPow fun i j => .int (i ^ j.toNat)) (tC (.int 10)) (tC (.int 18)))) tNil)) ([some (.ref a), some (.int (k : Int)), some (.int c), some (.int x)] : L2.St) H4 (.int (if decide ((10 : Int) ^ (18 : Int).toNat ≤ c) then 1 else 0)) := fun H5 e5 Q q =>
          ev_op (ev_var rfl) (evPow ev_c ev_c ⟨by decide, by decide, by decide⟩) rv_I0 H5 e5 _ fun H6 e6 => .inr ⟨_, rfl, q H6 e6⟩
        refine s_retL (el_lst (ea_cons (evMul (ev_var rfl) evB (Or.inr (by split <;> decide))) (ea_cons (ev_var rfl) ea_nil)) (by simp)) fun p H5 hp e5 h5 => ?_
        refine kQ p _ _ H5 (fresh_back (e3.trans e4) hp) ((e3.trans e4).trans e5) h5 ?_ x01.1 x01.2
        by_cases hc : (10 : Int) ^ (18 : Int).toNat ≤ c
        · rw [decide_eq_true hc]
          have big : (0 : Int) ≤ 10 ^ (18 : Int).toNat := by decide
          simp
          omega
        · rw [decide_eq_false hc]
          simp
end
end K54
set_option maxHeartbeats 8000000
namespace K54
open PySem PySem.Spec PyProof.Rows L2 Evl My LamX
abbrev sRows : Stmt := top 25
abbrev sDue : Stmt := top 26
/-- what may be said of a value, and stays so -/
structure Pr where
  p : Hp → V → Prop
  m : ∀ {H H' : Hp} {v : V}, Ex H H' → p H v → p H' v
inductive All2 : List Pr → Hp → List V → Prop
  | nil {H : Hp} : All2 [] H []
  | cons {q : Pr} {ps : List Pr} {H : Hp} {v : V} {vs : List V} : q.p H v → All2 ps H vs → All2 (q :: ps) H (v :: vs)
theorem All2.ext {ps : List Pr} {H H' : Hp} {vs : List V} (e : Ex H H') (h : All2 ps H vs) : All2 ps H' vs := by
  induction h with
  | nil => exact .nil
  | cons h _ ih => exact .cons (Pr.m _ e h) (ih e)
theorem All2.app {ps qs : List Pr} {H : Hp} {vs ws : List V} (h : All2 ps H vs) (g : All2 qs H ws) : All2 (ps ++ qs) H (vs ++ ws) := by
  induction h with
  | nil => exact g
  | cons h _ ih => exact .cons h (ih g)
theorem All2.len {ps : List Pr} {H : Hp} {vs : List V} (h : All2 ps H vs) : vs.length = ps.length := by
  induction h with
  | nil => rfl
  | cons _ _ ih => rw [List.length_cons, List.length_cons, ih]
def EvP (te : TE) (σ : L2.St) (H : Hp) (p : Pr) : Prop := ∀ H1, Ex H H1 → ∀ Q : VK, (∀ v H2, Ex H1 H2 → p.p H2 v → Q v H2) → te σ H1 Q
def EvPs (ta : TA) (σ : L2.St) (H : Hp) (ps : List Pr) : Prop := ∀ H1, Ex H H1 → ∀ Q : List V → Hp → Prop, (∀ vs H2, Ex H1 H2 → All2 ps H2 vs → Q vs H2) → ta σ H1 Q
/-- a new list of such values -/
def EvPL (te : TE) (σ : L2.St) (H : Hp) (ps : List Pr) : Prop := ∀ H1, Ex H H1 → ∀ Q : VK, (∀ l vs H2, H1 l = none → Ex H1 H2 → H2 l = some (.lst vs) → All2 ps H2 vs → Q (.ref l) H2) → te σ H1 Q
def prC (c : V) : Pr := ⟨fun _ v => v = c, fun _ h => h⟩
def prK (ks : List L2.Key) : Pr := ⟨fun H v => ∃ a, v = .ref a ∧ H a = some (.tup (ks.map kV)), fun e ⟨a, h1, h2⟩ => ⟨a, h1, e _ _ h2⟩⟩
def prA (k : MKey) : Pr := ⟨fun H v => KmV H v k, fun e h => h.ext e⟩
def prT (ps : List Pr) : Pr := ⟨fun H v => ∃ a vs, v = .ref a ∧ H a = some (.tup vs) ∧ All2 ps H vs, fun e ⟨a, vs, h1, h2, h3⟩ => ⟨a, vs, h1, e _ _ h2, h3.ext e⟩⟩
abbrev RwD := List L2.Key × Int × MKey
def prR (r : RwD) : Pr := prT [prK r.1, prC (.int r.2.1), prA r.2.2]
section
variable {σ : L2.St} {H : Hp} {te : TE} {ta : TA} {p : Pr} {ps qs : List Pr} {D : Ends} {tz : TS}
theorem ep_imp {q : Pr} (h : EvP te σ H p) (i : ∀ H v, p.p H v → q.p H v) : EvP te σ H q := fun H1 e Q k => h H1 e Q fun v H2 e2 g => k v H2 e2 (i _ _ g)
theorem ep_c {c : V} : EvP (tC c) σ H (prC c) := fun H1 e Q q => q c H1 (Ex.refl _) rfl
theorem ep_var {i : Nat} {v : V} (h : σ[i]? = some (some v)) (g : p.p H v) : EvP (tVar i) σ H p := fun H1 e Q q => ⟨v, h, q v H1 (Ex.refl _) (p.m e g)⟩
theorem eps_nil : EvPs tNil σ H [] := fun H1 e Q q => q [] H1 (Ex.refl _) .nil
theorem EvPs.mono {H' : Hp} (e : Ex H H') (h : EvPs ta σ H ps) : EvPs ta σ H' ps := fun H1 e1 => h H1 (e.trans e1)
theorem eps_cons (h : EvP te σ H p) (g : EvPs ta σ H ps) : EvPs (tCons te ta) σ H (p :: ps) := fun H1 e Q q => h H1 e _ fun v H2 e2 hv => g H2 (e.trans e2) _ fun vs H3 e3 hvs => q (v :: vs) H3 (e2.trans e3) (.cons (p.m e3 hv) hvs)
theorem ep_tup (h : EvPs ta σ H ps) (z : ps.length ≤ 100000) : EvP (tTup ta) σ H (prT ps) := fun H1 e Q q => h H1 e _ fun vs H2 e2 g => ⟨sz_of (by rw [g.len]; exact z), fun t nt => q (.ref t) _ (e2.trans (Ex.new nt)) ⟨t, vs, rfl, upd_same, g.ext (Ex.new nt)⟩⟩
theorem all_keys {H : Hp} : ∀ {ks : List L2.Key} {vs : List V}, All2 (ks.map fun k => prC (kV k)) H vs → vs = ks.map kV
  | [], _, h => by
    cases h
    rfl
  | k :: ks, _, h => by
    cases h with
    | cons h1 h2 =>
      rw [all_keys h2, show _ = kV k from h1]
      rfl
theorem ep_key {ks : List L2.Key} (h : EvPs ta σ H (ks.map fun k => prC (kV k))) (z : ks.length ≤ 1000) : EvP (tTup ta) σ H (prK ks) := ep_imp (ep_tup h (by rw [List.length_map]; omega)) fun H v ⟨a, vs, h1, h2, h3⟩ => ⟨a, h1, by rw [h2, all_keys h3]⟩
/-- a literal (x, y, n) -/
theorem ep_k3 {x y : Str} {n : Int} : EvP (tTup (tCons (tC (.str x)) (tCons (tC (.str y)) (tCons (tC (.int n)) tNil)))) σ H (prK [.inr x, .inr y, .inl n]) := ep_key (ks := [.inr x, .inr y, .inl n]) (eps_cons ep_c (eps_cons ep_c (eps_cons ep_c eps_nil))) (by show 3 ≤ 1000; decide)
theorem pk_a {ks : List L2.Key} (h : EvP te σ H (prK ks)) : EvP te σ H (prA (.tup ks)) := ep_imp h fun H v ⟨a, h1, h2⟩ => by
  subst h1
  exact h2
theorem pn_a : EvP (tC .non) σ H (prA .non) := ep_imp ep_c fun H v h => by
  have z : v = .non := h
  subst z
  exact True.intro
theorem ep_row {tm tst tf : TE} {r : RwD} (hm : EvP tm σ H (prK r.1)) (hs : EvP tst σ H (prC (.int r.2.1))) (hf : EvP tf σ H (prA r.2.2)) : EvP (tTup (tCons tm (tCons tst (tCons tf tNil)))) σ H (prR r) := ep_tup (eps_cons hm (eps_cons hs (eps_cons hf eps_nil))) (by show 3 ≤ 100000; decide)
theorem epl_lst (h : EvPs ta σ H ps) (z : ps.length ≤ 100000) : EvPL (tLst ta) σ H ps := fun H1 e Q q => h H1 e _ fun vs H2 e2 g => ⟨sz_of (by rw [g.len]; exact z), fun t nt => q t vs _ (fresh_back e2 nt) (e2.trans (Ex.new nt)) upd_same (g.ext (Ex.new nt))⟩
theorem epl_cat {i : Nat} {l : Addr} {vs : List V} (h0 : σ[i]? = some (some (.ref l))) (hl : H l = some (.lst vs)) (hv : All2 ps H vs) (h : EvPL te σ H qs) (z : ps.length + qs.length ≤ 1000) : EvPL (tOp rCat (tVar i) te) σ H (ps ++ qs) := fun H1 e Q q =>
  ⟨_, h0, h H1 e _ fun b ws H2 nb e2 hb g => ⟨l, b, vs, ws, rfl, rfl, (e.trans e2) _ _ hl, hb, sz_of (by rw [hv.len, g.len]; omega), fun t nt => q t (vs ++ ws) _ (fresh_back e2 nt) (e2.trans (Ex.new nt)) upd_same ((hv.ext ((e.trans e2).trans (Ex.new nt))).app (g.ext (Ex.new nt)))⟩⟩
theorem q_asgP {i : Nat} (h : EvP te σ H p) (k : ∀ v H1, Ex H H1 → p.p H1 v → tz D (σ.set i (some v)) H1) : tSeq (tAsg te (gName i)) tz D σ H := h H (Ex.refl H) _ k
theorem q_asgPL {i : Nat} (h : EvPL te σ H ps) (k : ∀ l vs H1, H l = none → Ex H H1 → H1 l = some (.lst vs) → All2 ps H1 vs → tz D (σ.set i (some (.ref l))) H1) : tSeq (tAsg te (gName i)) tz D σ H := h H (Ex.refl H) _ k
theorem s_retPL (h : EvPL te σ H ps) (k : ∀ l vs H1, H l = none → Ex H H1 → H1 l = some (.lst vs) → All2 ps H1 vs → D.rt (.ref l) H1) : tRet te D σ H := h H (Ex.refl H) _ k
end
theorem q_teG {te : TE} {g : TG} {tz : TS} {D : Ends} {σ : L2.St} {H : Hp} (h : te σ H fun v H1 => g v σ H1 fun σ' H' => tz D σ' H') : tSeq (tAsg te g) tz D σ H := h
theorem all3 {p q r : Pr} {H : Hp} {vs : List V} (h : All2 [p, q, r] H vs) : ∃ a b c, vs = [a, b, c] ∧ p.p H a ∧ q.p H b ∧ r.p H c := by
  cases h with
  | cons h1 h => cases h with
    | cons h2 h => cases h with
      | cons h3 h =>
        cases h
        exact ⟨_, _, _, rfl, h1, h2, h3⟩
theorem all4 {p q r u : Pr} {H : Hp} {vs : List V} (h : All2 [p, q, r, u] H vs) : ∃ a b c d, vs = [a, b, c, d] ∧ p.p H a ∧ q.p H b ∧ r.p H c ∧ u.p H d := by
  cases h with
  | cons h1 h =>
    obtain ⟨a, b, c, rfl, h2, h3, h4⟩ := all3 h
    exact ⟨_, _, _, _, rfl, h1, h2, h3, h4⟩
/-! the rows and the order that is due -/
def ky (x y : Str) (n : Int) : List L2.Key := [.inr x, .inr y, .inl n]
def rowsA : List RwD := [(ky "open" "" 1, 1, .non), (ky "top" "" 1, 3, .tup (ky "red" "pad" 1)), (ky "red" "pad" 1, 2, .tup (ky "open" "" 1)), (ky "red" "" 1, 4, .tup (ky "open" "" 1)), (ky "blue" "" 1, 2, .tup (ky "open" "" 1)), (ky "open" "pad" 1, 2, .non)]
def rowsB : List RwD := [(ky "blue" "" 10, 5, .tup (ky "open" "" 1)), (ky "blue" "" 9, 5, .tup (ky "open" "" 1))]
def rowsC : List RwD := [(ky "red" "" 2, 5, .tup (ky "open" "pad" 1)), (ky "open" "" 2, 2, .non), (ky "top" "" 2, 6, .tup (ky "open" "" 2))]
def rowsD : List RwD := (rowsA ++ rowsB) ++ rowsC
def dueD : List (List L2.Key) := [ky "open" "" 1, ky "blue" "" 1, ky "blue" "" 9, ky "blue" "" 10, ky "red" "pad" 1, ky "top" "" 1, ky "red" "" 1, ky "open" "" 2, ky "top" "" 2, ky "open" "pad" 1, ky "red" "" 2]
def spRows : Sp := fun vs H Q _ => vs = [] ∧ ∀ l ws H', H l = none → Ex H H' → H' l = some (.lst ws) → All2 (rowsD.map prR) H' ws → Q (.ref l) H'
def spDue : Sp := fun vs H Q _ => vs = [] ∧ ∀ l ws H', H l = none → Ex H H' → H' l = some (.lst ws) → All2 (dueD.map prK) H' ws → Q (.ref l) H'
section
variable {P : Program} {w : World} {K : PySem.W.Frag} {mg : Str → Option Value} {base : Heap} {f : Addr} {fd : FuncData}
def NRw : List Str := ["_law_one", "_law_two", "_law_three", "_law_red", "_law_far", "_law_blue", "_law_top", "_law_rows_here"]
theorem scRows : FnScope NRw [] (defScope sRows) := ⟨rfl, rfl, rfl, by decide +kernel, rfl, by decide +kernel, by decide +kernel⟩
def NDu : List Str := ["_law_one", "_law_two", "_law_three", "_law_red", "_law_far", "_law_blue", "_law_top"]
theorem scDue : FnScope NDu [] (defScope sDue) := ⟨rfl, rfl, rfl, by decide +kernel, rfl, by decide +kernel, by decide +kernel⟩
theorem ok_rows (F : Fun K "_law_rows" "_law_rows" sRows f fd) : FnOk P w K mg base CX0 1 f fd [] spRows := by
  refine F.ok scRows (fun vs H Q E h => ?_) (fun cdv A outer s H vs Q E hr h => ?_)
  · rw [h.1]
    rfl
  · obtain ⟨rfl, kQ⟩ := h
    refine ⟨_, (pss_cons (ps_asg (pe_tup (pa_cons (pe_tup (pa_cons pe_str (pa_cons pe_str (pa_cons pe_int pa_nil)))) (pa_cons (pe_tup (pa_cons pe_str (pa_cons pe_str (pa_cons pe_int pa_nil)))) (pa_cons (pe_tup (pa_cons pe_str (pa_cons pe_str (pa_cons pe_int pa_nil)))) pa_nil)))) (pg_tup rfl (pgs_cons (pg_name (i := 0) scRows.nd rfl (Or.inl rfl)) (pgs_cons (pg_name (i := 1) scRows.nd rfl (Or.inl rfl)) (pgs_cons (pg_name (i := 2) scRows.nd rfl (Or.inl rfl)) pgs_nil)))))
      (pss_cons (ps_asg (pe_tup (pa_cons (pe_tup (pa_cons pe_str (pa_cons pe_str (pa_cons pe_int pa_nil)))) (pa_cons (pe_tup (pa_cons pe_str (pa_cons pe_str (pa_cons pe_int pa_nil)))) (pa_cons (pe_tup (pa_cons pe_str (pa_cons pe_str (pa_cons pe_int pa_nil)))) (pa_cons (pe_tup (pa_cons pe_str (pa_cons pe_str (pa_cons pe_int pa_nil)))) pa_nil))))) (pg_tup rfl (pgs_cons (pg_name (i := 3) scRows.nd rfl (Or.inl rfl)) (pgs_cons (pg_name (i := 4) scRows.nd rfl (Or.inl rfl)) (pgs_cons (pg_name (i := 5) scRows.nd rfl (Or.inl rfl)) (pgs_cons (pg_name (i := 6) scRows.nd rfl (Or.inl rfl)) pgs_nil))))))
      (pss_cons (ps_set (i := 7) scRows.nd rfl (Or.inl rfl) (pe_lst (pa_cons (pe_tup (pa_cons (pv 0) (pa_cons pe_int (pa_cons pe_non pa_nil)))) (pa_cons (pe_tup (pa_cons (pv 6) (pa_cons pe_int (pa_cons (pv 4) pa_nil)))) (pa_cons (pe_tup (pa_cons (pv 4) (pa_cons pe_int (pa_cons (pv 0) pa_nil)))) (pa_cons (pe_tup (pa_cons (pv 3) (pa_cons pe_int (pa_cons (pv 0) pa_nil)))) (pa_cons (pe_tup (pa_cons (pv 5) (pa_cons pe_int (pa_cons (pv 0) pa_nil)))) (pa_cons (pe_tup (pa_cons (pv 2) (pa_cons pe_int (pa_cons pe_non pa_nil)))) pa_nil))))))))
      (pss_cons (ps_set (i := 7) scRows.nd rfl (Or.inl rfl) (pe_op op_cat (pv 7) (pe_lst (pa_cons (pe_tup (pa_cons (pe_tup (pa_cons pe_str (pa_cons pe_str (pa_cons pe_int pa_nil)))) (pa_cons pe_int (pa_cons (pv 0) pa_nil)))) (pa_cons (pe_tup (pa_cons (pe_tup (pa_cons pe_str (pa_cons pe_str (pa_cons pe_int pa_nil)))) (pa_cons pe_int (pa_cons (pv 0) pa_nil)))) pa_nil)))))
      (pss_one (ps_ret (pe_op op_cat (pv 7) (pe_lst (pa_cons (pe_tup (pa_cons (pe_tup (pa_cons pe_str (pa_cons pe_str (pa_cons pe_int pa_nil)))) (pa_cons pe_int (pa_cons (pv 2) pa_nil)))) (pa_cons (pe_tup (pa_cons (pv 1) (pa_cons pe_int (pa_cons pe_non pa_nil)))) (pa_cons (pe_tup (pa_cons (pe_tup (pa_cons pe_str (pa_cons pe_str (pa_cons pe_int pa_nil)))) (pa_cons pe_int (pa_cons (pv 1) pa_nil)))) pa_nil))))))))))), ?_⟩
    refine q_teG (ep_tup (ps := [prK (ky "open" "" 1), prK (ky "open" "" 2), prK (ky "open" "pad" 1)]) (eps_cons ep_k3 (eps_cons ep_k3 (eps_cons ep_k3 eps_nil))) (by show 3 ≤ 100000; decide) _ (Ex.refl _) _ fun v H1 e1 g => ?_)
    obtain ⟨t, vs, rfl, ht, ha⟩ := g
    obtain ⟨v0, v1, v2, rfl, g0, g1, g2⟩ := all3 ha
    refine ⟨t, _, rfl, st_of ht, rfl, _, _, rfl, _, _, rfl, _, _, rfl, rfl, ?_⟩
    refine q_teG (ep_tup (ps := [prK (ky "red" "" 1), prK (ky "red" "pad" 1), prK (ky "blue" "" 1), prK (ky "top" "" 1)]) (eps_cons ep_k3 (eps_cons ep_k3 (eps_cons ep_k3 (eps_cons ep_k3 eps_nil)))) (by show 4 ≤ 100000; decide) _ (Ex.refl _) _ fun v H2 e2 g => ?_)
    obtain ⟨t2, vs2, rfl, ht2, ha2⟩ := g
    obtain ⟨v3, v4, v5, v6, rfl, g3, g4, g5, g6⟩ := all4 ha2
    refine ⟨t2, _, rfl, st_of ht2, rfl, _, _, rfl, _, _, rfl, _, _, rfl, _, _, rfl, rfl, ?_⟩
    have g0 := Pr.m _ e2 g0
    have g1 := Pr.m _ e2 g1
    have g2 := Pr.m _ e2 g2
    refine q_asgPL (epl_lst (ps := rowsA.map prR) (eps_cons (ep_row (ep_var (i := 0) rfl g0) ep_c pn_a) (eps_cons (ep_row (ep_var (i := 6) rfl g6) ep_c (pk_a (ep_var (i := 4) rfl g4))) (eps_cons (ep_row (ep_var (i := 4) rfl g4) ep_c (pk_a (ep_var (i := 0) rfl g0))) (eps_cons (ep_row (ep_var (i := 3) rfl g3) ep_c (pk_a (ep_var (i := 0) rfl g0))) (eps_cons (ep_row (ep_var (i := 5) rfl g5) ep_c (pk_a (ep_var (i := 0) rfl g0))) (eps_cons (ep_row (ep_var (i := 2) rfl g2) ep_c pn_a) eps_nil)))))) (by show 6 ≤ 100000; decide)) fun l vs H3 nl e3 hl al => ?_
    have g0 := Pr.m _ e3 g0
    have g1 := Pr.m _ e3 g1
    have g2 := Pr.m _ e3 g2
    have g3 := Pr.m _ e3 g3
    have g4 := Pr.m _ e3 g4
    have g5 := Pr.m _ e3 g5
    have g6 := Pr.m _ e3 g6
    refine q_asgPL (epl_cat (i := 7) rfl hl al (epl_lst (ps := rowsB.map prR) (eps_cons (ep_row ep_k3 ep_c (pk_a (ep_var (i := 0) rfl g0))) (eps_cons (ep_row ep_k3 ep_c (pk_a (ep_var (i := 0) rfl g0))) eps_nil)) (by show 2 ≤ 100000; decide)) (by show 8 ≤ 1000; decide)) fun l2 vs2 H4 nl2 e4 hl2 al2 => ?_
    have g0 := Pr.m _ e4 g0
    have g1 := Pr.m _ e4 g1
    have g2 := Pr.m _ e4 g2
    have g3 := Pr.m _ e4 g3
    have g4 := Pr.m _ e4 g4
    have g5 := Pr.m _ e4 g5
    have g6 := Pr.m _ e4 g6
    refine s_retPL (epl_cat (i := 7) rfl hl2 al2 (epl_lst (ps := rowsC.map prR) (eps_cons (ep_row ep_k3 ep_c (pk_a (ep_var (i := 2) rfl g2))) (eps_cons (ep_row (ep_var (i := 1) rfl g1) ep_c pn_a) (eps_cons (ep_row ep_k3 ep_c (pk_a (ep_var (i := 1) rfl g1))) eps_nil))) (by show 3 ≤ 100000; decide)) (by show 11 ≤ 1000; decide)) fun l3 vs3 H5 nl3 e5 hl3 al3 => ?_
    have e14 := ((e1.trans e2).trans e3).trans e4
    exact kQ l3 vs3 H5 (fresh_back e14 nl3) (e14.trans e5) hl3 al3
theorem ok_due (F : Fun K "_law_due" "_law_due" sDue f fd) : FnOk P w K mg base CX0 1 f fd [] spDue := by
  refine F.ok scDue (fun vs H Q E h => ?_) (fun cdv A outer s H vs Q E hr h => ?_)
  · rw [h.1]
    rfl
  · obtain ⟨rfl, kQ⟩ := h
    refine ⟨_, (pss_cons (ps_asg (pe_tup (pa_cons (pe_tup (pa_cons pe_str (pa_cons pe_str (pa_cons pe_int pa_nil)))) (pa_cons (pe_tup (pa_cons pe_str (pa_cons pe_str (pa_cons pe_int pa_nil)))) (pa_cons (pe_tup (pa_cons pe_str (pa_cons pe_str (pa_cons pe_int pa_nil)))) pa_nil)))) (pg_tup rfl (pgs_cons (pg_name (i := 0) scDue.nd rfl (Or.inl rfl)) (pgs_cons (pg_name (i := 1) scDue.nd rfl (Or.inl rfl)) (pgs_cons (pg_name (i := 2) scDue.nd rfl (Or.inl rfl)) pgs_nil)))))
      (pss_cons (ps_asg (pe_tup (pa_cons (pe_tup (pa_cons pe_str (pa_cons pe_str (pa_cons pe_int pa_nil)))) (pa_cons (pe_tup (pa_cons pe_str (pa_cons pe_str (pa_cons pe_int pa_nil)))) (pa_cons (pe_tup (pa_cons pe_str (pa_cons pe_str (pa_cons pe_int pa_nil)))) (pa_cons (pe_tup (pa_cons pe_str (pa_cons pe_str (pa_cons pe_int pa_nil)))) pa_nil))))) (pg_tup rfl (pgs_cons (pg_name (i := 3) scDue.nd rfl (Or.inl rfl)) (pgs_cons (pg_name (i := 4) scDue.nd rfl (Or.inl rfl)) (pgs_cons (pg_name (i := 5) scDue.nd rfl (Or.inl rfl)) (pgs_cons (pg_name (i := 6) scDue.nd rfl (Or.inl rfl)) pgs_nil))))))
      (pss_one (ps_ret (pe_lst (pa_cons (pv 0) (pa_cons (pv 5) (pa_cons (pe_tup (pa_cons pe_str (pa_cons pe_str (pa_cons pe_int pa_nil)))) (pa_cons (pe_tup (pa_cons pe_str (pa_cons pe_str (pa_cons pe_int pa_nil)))) (pa_cons (pv 4) (pa_cons (pv 6) (pa_cons (pv 3) (pa_cons (pv 1) (pa_cons (pe_tup (pa_cons pe_str (pa_cons pe_str (pa_cons pe_int pa_nil)))) (pa_cons (pv 2) (pa_cons (pe_tup (pa_cons pe_str (pa_cons pe_str (pa_cons pe_int pa_nil)))) pa_nil)))))))))))))))), ?_⟩
    refine q_teG (ep_tup (ps := [prK (ky "open" "" 1), prK (ky "open" "" 2), prK (ky "open" "pad" 1)]) (eps_cons ep_k3 (eps_cons ep_k3 (eps_cons ep_k3 eps_nil))) (by show 3 ≤ 100000; decide) _ (Ex.refl _) _ fun v H1 e1 g => ?_)
    obtain ⟨t, vs, rfl, ht, ha⟩ := g
    obtain ⟨v0, v1, v2, rfl, g0, g1, g2⟩ := all3 ha
    refine ⟨t, _, rfl, st_of ht, rfl, _, _, rfl, _, _, rfl, _, _, rfl, rfl, ?_⟩
    refine q_teG (ep_tup (ps := [prK (ky "red" "" 1), prK (ky "red" "pad" 1), prK (ky "blue" "" 1), prK (ky "top" "" 1)]) (eps_cons ep_k3 (eps_cons ep_k3 (eps_cons ep_k3 (eps_cons ep_k3 eps_nil)))) (by show 4 ≤ 100000; decide) _ (Ex.refl _) _ fun v H2 e2 g => ?_)
    obtain ⟨t2, vs2, rfl, ht2, ha2⟩ := g
    obtain ⟨v3, v4, v5, v6, rfl, g3, g4, g5, g6⟩ := all4 ha2
    refine ⟨t2, _, rfl, st_of ht2, rfl, _, _, rfl, _, _, rfl, _, _, rfl, _, _, rfl, rfl, ?_⟩
    have g0 := Pr.m _ e2 g0
    have g1 := Pr.m _ e2 g1
    have g2 := Pr.m _ e2 g2
    refine s_retPL (epl_lst (ps := dueD.map prK) (eps_cons (ep_var (i := 0) rfl g0) (eps_cons (ep_var (i := 5) rfl g5) (eps_cons ep_k3 (eps_cons ep_k3 (eps_cons (ep_var (i := 4) rfl g4) (eps_cons (ep_var (i := 6) rfl g6) (eps_cons (ep_var (i := 3) rfl g3) (eps_cons (ep_var (i := 1) rfl g1) (eps_cons ep_k3 (eps_cons (ep_var (i := 2) rfl g2) (eps_cons ep_k3 eps_nil))))))))))) (by show 11 ≤ 100000; decide)) fun l vs H3 nl e3 hl al => ?_
    exact kQ l vs H3 (fresh_back (e1.trans e2) nl) ((e1.trans e2).trans e3) hl al
end
end K54
set_option maxHeartbeats 4000000
/-! xs != ys, the same objects in both -/
namespace My
open PySem PySem.Spec PyProof.Rows L2 Evl
def rNeSame (K : PySem.W.Frag) : R2 := fun x y H Q => ∃ (a b : Addr) (rs : List Addr), x = .ref a ∧ y = .ref b ∧ SqL K H a (rs.map V.ref) ∧ SqL K H b (rs.map V.ref) ∧ Q (.bl false) H
theorem refs_are : ∀ {rs : List Addr} {us : List Value}, Vals (rs.map V.ref) us → us = rs.map Value.ref
  | [], _, r => by
    cases r
    rfl
  | p :: rs, _, r => by
    cases r with
    | cons r1 r2 =>
      cases r1
      rw [refs_are r2]
      rfl
theorem op_neSame {X : Cx} (hu : X.A.units < cLine) : OpR X (compareOp .NotEq) (rNeSame X.K) := by
  intro pins s σ H x y v u Q I rx ry h
  obtain ⟨a, b, rs, rfl, rfl, ha, hb, q⟩ := h
  obtain rfl : v = Value.ref a := rx
  obtain rfl : u = Value.ref b := ry
  obtain ⟨i1, r1, l1, z1⟩ := I.list ha
  obtain ⟨i2, r2, l2, z2⟩ := I.list hb
  have e1 := refs_are r1
  have e2 := refs_are r2
  subst e1
  subst e2
  have z := SeqAt.RcNeAt.lists (A := X.A) (e := fun _ => true) l1.isList l2.isList rfl hu (fun j h1 h2 => SeqAt.EqAt.same _)
  refine z X.prog X.w X.xe _ ?_
  have t : ((List.range (rs.map Value.ref).toArray.size).all fun _ => true) = true := List.all_eq_true.mpr fun _ _ => rfl
  rw [t]
  exact ⟨.bl false, H, I, rfl, q⟩
end My
set_option maxHeartbeats 8000000
namespace K54
open PySem PySem.Spec PyProof.Rows L2 Evl My LamX
/-! what holds of the eleven records -/
def actU : PyData := .tuple [.str "undo"]
def rwD (i : Nat) : RwD := rowsD.getD i ([], 0, .non)
def rwN (i : Nat) : Rc := ⟨(rwD i).1, (rwD i).2.1, (rwD i).2.2, actU⟩
def NSx : List Str := ["open", "red", "blue", "top"]
def psx : List (Str × Str) := [("red", "top"), ("blue", "top")]
def blx : Str → List Str := belF NSx psx NSx
def sortI : List Nat := [1, 10, 4, 7, 6, 2, 3, 8, 0, 9, 5]
def outI : List Nat := [0, 4, 7, 6, 2, 1, 3, 9, 10, 5, 8]
def canI (k : MKey) : List Nat := sortI.filter fun i => decide ((rwN i).af = k)
def runI : Nat → List Nat → Option (List Nat)
  | _, [] => some []
  | 0, _ :: _ => none
  | n + 1, a :: s => (runI n (canI (.tup (rwN a).ky) ++ s)).map (a :: ·)
theorem runI_out : runI 11 (canI .non) = some outI := by decide +kernel
theorem out_due : outI.map (fun i => (rwN i).ky) = dueD := by decide +kernel
theorem sort_ok : (sortI.map fun i => rowF NSx (rwN i)).Pairwise fun a b => ltR a b = true := by decide +kernel
theorem sort_mem : (List.range 11).all (fun i => decide (i ∈ sortI)) = true := by decide +kernel
theorem sort_lt : sortI.all (fun i => decide (i < 11)) = true := by decide +kernel
theorem sort_nd : sortI.Nodup := by decide +kernel
def mkB (i : Nat) : Bool := decide ((rwN i).ky = [.inr (lvK (rwN i).ky), .inr (srK (rwN i).ky), .inl (nuK (rwN i).ky)]) && decide (lvK (rwN i).ky ∈ NSx)
theorem mk_all : (List.range 11).all mkB = true := by decide +kernel
theorem ok_all : (List.range 11).all (fun i => rcOk (rwN i)) = true := by decide +kernel
theorem ky_inj : (List.range 11).all (fun i => (List.range 11).all fun j => !decide ((rwN i).ky = (rwN j).ky) || decide (i = j)) = true := by decide +kernel
def hdK (ks : List L2.Key) : Str := lvK ks
def foB (i : Nat) : Bool := match (rwN i).af with
  | .non => true
  | .tup ks => decide (ks = .inr (lvK ks) :: ks.tail) && decide ((rwN i).ky = .inr (lvK (rwN i).ky) :: (rwN i).ky.tail) && ((List.range 11).any fun j => decide ((rwN j).ky = ks)) && decide (lvK (rwN i).ky ∈ NSx) && decide (lvK ks ∈ NSx) && !decide (lvK (rwN i).ky = lvK ks) && decide (lvK ks ∈ blx (lvK (rwN i).ky))
theorem fo_all : (List.range 11).all foB = true := by decide +kernel
theorem all_lt {p : Nat → Bool} {n i : Nat} (h : (List.range n).all p = true) (hi : i < n) : p i = true := List.all_eq_true.mp h i (List.mem_range.mpr hi)
/-- the place of an address -/
def ixA (a : Addr) : List Addr → Nat
  | [] => 0
  | w :: ws => if w = a then 0 else ixA a ws + 1
theorem ixA_at : ∀ {l : List Addr} {i : Nat} {a : Addr}, l.Nodup → l[i]? = some a → ixA a l = i
  | w :: l, 0, a, nd, h => by
    cases h
    unfold ixA
    rw [if_pos rfl]
  | w :: l, i + 1, a, nd, h => by
    have m : a ∈ l := List.mem_of_getElem? (show l[i]? = some a from h)
    rw [List.nodup_cons] at nd
    unfold ixA
    rw [if_neg (fun e => nd.1 (by rw [e]; exact m)), ixA_at nd.2 h]
def recA (ads : List Addr) (a : Addr) : Rc := rwN (ixA a ads)
def adA (ads : List Addr) (i : Nat) : Addr := ads.getD i 0
def canA (ads : List Addr) (k : MKey) : List Addr := (sortI.map (adA ads)).filter fun a => decide ((recA ads a).af = k)
section
variable {ads : List Addr}
theorem ad_some (len : ads.length = 11) {i : Nat} (hi : i < 11) : ads[i]? = some (adA ads i) := by
  have h : i < ads.length := by omega
  unfold adA
  rw [List.getD, List.getElem?_eq_getElem h]
  rfl
theorem ad_mem (len : ads.length = 11) {i : Nat} (hi : i < 11) : adA ads i ∈ ads := List.mem_of_getElem? (ad_some len hi)
theorem mem_ad (len : ads.length = 11) {a : Addr} (m : a ∈ ads) : ∃ i, i < 11 ∧ a = adA ads i := by
  obtain ⟨i, h⟩ := List.mem_iff_getElem?.mp m
  have lt := (List.getElem?_eq_some_iff.mp h).1
  have i11 : i < 11 := by omega
  refine ⟨i, i11, ?_⟩
  rw [ad_some len i11] at h
  exact (Option.some.inj h).symm
theorem rec_ad (len : ads.length = 11) (nd : ads.Nodup) {i : Nat} (hi : i < 11) : recA ads (adA ads i) = rwN i := by
  unfold recA
  rw [ixA_at nd (ad_some len hi)]
theorem ad_inj (len : ads.length = 11) (nd : ads.Nodup) {i j : Nat} (hi : i < 11) (hj : j < 11) (e : adA ads i = adA ads j) : i = j := by
  have h1 := ixA_at nd (ad_some len hi)
  have h2 := ixA_at nd (ad_some len hj)
  rw [← h1, ← h2, e]
theorem sort_i {i : Nat} (m : i ∈ sortI) : i < 11 := of_decide_eq_true (List.all_eq_true.mp sort_lt i m)
theorem can_map (len : ads.length = 11) (nd : ads.Nodup) (k : MKey) : canA ads k = (canI k).map (adA ads) := by
  unfold canA canI
  rw [List.filter_map]
  congr 1
  refine List.filter_congr fun i m => ?_
  show decide ((recA ads (adA ads i)).af = k) = _
  rw [rec_ad len nd (sort_i m)]
theorem run_map (len : ads.length = 11) (nd : ads.Nodup) : ∀ {n : Nat} {s out : List Nat}, (∀ i ∈ s, i < 11) → runI n s = some out → runC (recA ads) (canA ads) n (s.map (adA ads)) = some (out.map (adA ads))
  | n, [], out, _, h => by
    have z : some ([] : List Nat) = some out := by
      rw [← h]
      cases n <;> rfl
    cases z
    cases n <;> rfl
  | 0, _ :: _, out, _, h => by cases h
  | n + 1, a :: s, out, hs, h => by
    have h' : (runI n (canI (.tup (rwN a).ky) ++ s)).map (a :: ·) = some out := h
    cases hz : runI n (canI (.tup (rwN a).ky) ++ s) with
    | none =>
      rw [hz] at h'
      cases h'
    | some o =>
      rw [hz] at h'
      cases h'
      have ih := run_map len nd (n := n) (s := canI (.tup (rwN a).ky) ++ s) (fun i m => by
        rcases List.mem_append.mp m with m | m
        · exact sort_i (List.mem_filter.mp m).1
        · exact hs i (List.mem_cons_of_mem _ m)) hz
      show (runC (recA ads) (canA ads) n (canA ads (.tup (recA ads (adA ads a)).ky) ++ s.map (adA ads))).map (adA ads a :: ·) = _
      rw [rec_ad len nd (hs a (List.mem_cons_self ..)), can_map len nd, ← List.map_append, ih]
      rfl
end
end K54
set_option maxHeartbeats 8000000
namespace K54
open PySem PySem.Spec PyProof.Rows L2 Evl My LamX
def spRioA (K : PySem.W.Frag) (CL C : Addr) : Sp := fun vs H Q E => ∃ rec, spRio K CL C rec vs H Q E
theorem rioA {P : Program} {w : World} {K : PySem.W.Frag} {mg : Str → Option Value} {base : Heap} {CL C f : Addr} {fd : FuncData} {CX : CXT} {k : Nat} {ps : List Str} (h : ∀ rec, FnOk P w K mg base CX k f fd ps (spRio K CL C rec)) : FnOk P w K mg base CX k f fd ps (spRioA K CL C) :=
  ⟨fun vs H Q E ⟨rec, x⟩ => (h rec).len vs H Q E x, fun A outer s H args us vs Q E hr e b r ⟨rec, x⟩ => (h rec).run A outer s H args us vs Q E hr e b r x⟩
theorem names_x : NamesOk NSx := by
  have h := (names_ok (d := .list (txts NSx)) (by decide +kernel)).2.2
  have e : (seqOf (.list (txts NSx))).map strD = NSx := by decide +kernel
  rw [e] at h
  exact h
theorem lvx : LvOk NSx blx := lv_ok names_x
/-- the eleven records -/
structure RcsA (K : PySem.W.Frag) (C : Addr) (H : Hp) (ads : List Addr) : Prop where
  len : ads.length = 11
  nd : ads.Nodup
  at_ : ∀ a ∈ ads, RecAt K C H a (recA ads a)
theorem RcsA.ext {K : PySem.W.Frag} {C : Addr} {H H' : Hp} {ads : List Addr} (e : Ex H H') (h : RcsA K C H ads) : RcsA K C H' ads := ⟨h.len, h.nd, fun a m => (h.at_ a m).ext e⟩
theorem rec_ix {ads : List Addr} (len : ads.length = 11) (nd : ads.Nodup) {a : Addr} (m : a ∈ ads) : ∃ i, i < 11 ∧ a = adA ads i ∧ recA ads a = rwN i := by
  obtain ⟨i, hi, rfl⟩ := mem_ad len m
  exact ⟨i, hi, rfl, rec_ad len nd hi⟩
theorem mk_of {i : Nat} (hi : i < 11) : MkOk NSx (rwN i).ky := by
  have h := all_lt mk_all hi
  unfold mkB at h
  rw [Bool.and_eq_true, decide_eq_true_eq, decide_eq_true_eq] at h
  exact h
theorem pair_sort {ads : List Addr} (len : ads.length = 11) (nd : ads.Nodup) : (sortI.map (adA ads)).Pairwise fun a b => ltR (rowF NSx (recA ads a)) (rowF NSx (recA ads b)) = true := by
  have h := sort_ok
  rw [List.pairwise_map] at h
  rw [List.pairwise_map]
  refine h.imp_of_mem fun {i j} mi mj q => ?_
  rw [rec_ad len nd (sort_i mi), rec_ad len nd (sort_i mj)]
  exact q
theorem rio_go {K : PySem.W.Frag} {CL C J L : Addr} {H : Hp} {ads ss : List Addr} {Q : VK} {E : XK} (hA : RcsA K C H ads) (lv : LvAt CL H J NSx blx) (hL : SqL K H L (ss.map V.ref)) (cover : ∀ a ∈ ads, a ∈ ss) (sub : ∀ a ∈ ss, a ∈ ads) (len : ss.length ≤ 400)
    (k : ∀ p H', H p = none → Ex H H' → H' p = some (.lst ((outI.map (adA ads)).map V.ref)) → Q (.ref p) H') : spRioA K CL C [.ref J, .ref L] H Q E := by
  have ix : ∀ {a}, a ∈ ads → _ := fun {a} m => rec_ix (a := a) hA.len hA.nd m
  have mS : ∀ {a}, a ∈ sortI.map (adA ads) ↔ a ∈ dedA ss := fun {a} => by
    rw [mem_ded, List.mem_map]
    constructor
    · rintro ⟨i, mi, rfl⟩
      exact cover _ (ad_mem hA.len (sort_i mi))
    · intro m
      obtain ⟨i, hi, e, _⟩ := ix (sub a m)
      exact ⟨i, of_decide_eq_true (all_lt sort_mem hi), e.symm⟩
  have ndS : (sortI.map (adA ads)).Nodup := by
    rw [List.nodup_iff_pairwise_ne, List.pairwise_map]
    refine (List.nodup_iff_pairwise_ne.mp sort_nd).imp_of_mem fun {i j} mi mj n e => n (ad_inj hA.len hA.nd (sort_i mi) (sort_i mj) e)
  refine ⟨recA ads, J, L, NSx, blx, ss, canA ads, 11, outI.map (adA ads), rfl, lv, lvx, hL, ⟨fun a m => hA.at_ a (sub a m), fun a m => ?_, fun a ma b mb e => ?_⟩, fun a m => ?_, len, by decide, fun a m => ?_, fun k => ⟨?_, ?_⟩, ?_, k⟩
  · obtain ⟨i, hi, _, e⟩ := ix (sub a m)
    rw [e]
    exact all_lt ok_all hi
  · obtain ⟨i, hi, ea, e1⟩ := ix (sub a ma)
    obtain ⟨j, hj, eb, e2⟩ := ix (sub b mb)
    rw [e1, e2] at e
    have h := all_lt (all_lt ky_inj hi) hj
    rw [decide_eq_true e] at h
    have ij : i = j := of_decide_eq_true (by simpa using h)
    rw [ea, eb, ij]
  · obtain ⟨i, hi, _, e⟩ := ix (sub a m)
    rw [e]
    exact mk_of hi
  · obtain ⟨i, hi, _, e⟩ := ix (sub a m)
    rw [e]
    have h := all_lt fo_all hi
    unfold foB at h
    cases haf : (rwN i).af with
    | non => exact .inl haf
    | tup ks =>
      rw [haf] at h
      simp only [Bool.and_eq_true, decide_eq_true_eq, Bool.not_eq_true', decide_eq_false_iff_not, List.any_eq_true] at h
      obtain ⟨⟨⟨⟨⟨⟨h1, h2⟩, h3⟩, h4⟩, h5⟩, h6⟩, h7⟩ := h
      refine .inr ⟨ks, _, _, _, _, haf, h1, h2, ?_, h4, h5, h6, h7⟩
      obtain ⟨j, mj, ej⟩ := h3
      have hj := List.mem_range.mp mj
      have mm : adA ads j ∈ dedA ss := mem_ded.mpr (cover _ (ad_mem hA.len hj))
      have g := kvA_get (rec := recA ads) (as := dedA ss) (fun a ma b mb e => by
        obtain ⟨i, hi, ea, e1⟩ := ix (sub a (mem_ded.mp ma))
        obtain ⟨j, hj, eb, e2⟩ := ix (sub b (mem_ded.mp mb))
        rw [e1, e2] at e
        have h := all_lt (all_lt ky_inj hi) hj
        rw [decide_eq_true e] at h
        have ij : i = j := of_decide_eq_true (by simpa using h)
        rw [ea, eb, ij]) mm
      rw [rec_ad hA.len hA.nd hj, ej] at g
      rw [g]
      rfl
  · exact ((List.perm_ext_iff_of_nodup ndS (ded_nd ss)).mpr fun a => mS).filter _
  · exact (pair_sort hA.len hA.nd).filter _
  · rw [can_map hA.len hA.nd]
    exact run_map hA.len hA.nd (fun i m => sort_i (List.mem_filter.mp m).1) runI_out
theorem rio_nil {K : PySem.W.Frag} {CL C J L : Addr} {H : Hp} {Q : VK} {E : XK} (lv : LvAt CL H J NSx blx) (hL : SqL K H L []) (k : ∀ p H', H p = none → Ex H H' → H' p = some (.lst []) → Q (.ref p) H') : spRioA K CL C [.ref J, .ref L] H Q E :=
  ⟨fun _ => rwN 0, J, L, NSx, blx, [], fun _ => [], 0, [], rfl, lv, lvx, hL, ⟨fun _ m => (by cases m), fun _ m => (by cases m), fun _ m => (by cases m)⟩, fun _ m => (by cases m), by decide, by decide, fun _ m => (by cases m), fun k => ⟨List.Perm.refl _, .nil⟩, rfl, k⟩
end K54
set_option maxHeartbeats 16000000
namespace K54
open PySem PySem.Spec PyProof.Rows L2 Evl My LamX
abbrev sLaw : Stmt := top 27
theorem noWay {X : Cx} : Passes (L2.CX X.prog X.w) X (fun _ _ _ => False) := L2.passes_call L2.takes0 fun _ _ _ _ z => z
theorem pe_df0 {X : Cx} {x : Str} {k : Nat} {sp : Sp} {p pos : Pos} (D : Df X.prog X.w X.K X.mg X.base x [] k sp) (hr : Room k X.A) (hg : Gl X x) (hdb : (x == ("__debug__" : Str)) = false := by decide) : PE X (.Call (.Name x p) [] [] pos) (tCall sp [] E0 tNil) := by
  obtain ⟨f, fd, hm, hk, F, b⟩ := D.ex
  exact pe_call0 F hr hg hm hk b .nil pass0 hdb
/-! Record(..) -/
structure MkR (P : Program) (w : World) (K : PySem.W.Frag) (mg : Str → Option Value) (base : Heap) (C : Addr) : Prop where
  ex : ∃ (f : Addr) (fd : FuncData), Mk K C f ∧ FnOk P w K mg base CX0 1 f fd NR (spRInit C) ∧ Binds K fd NR []
  g : mg "Record" = some (.ref C)
theorem mkRc {X : Cx} {C : Addr} {e : Expr} {es : List Expr} {t : TA} {p pos : Pos} (M : MkR X.prog X.w X.K X.mg X.base C) (hr : Room 2 X.A) (hg : Gl X "Record") (ha : PA X (e :: es) t)
    (he : starEach (e :: es) X.env = (false, eval e X.env) :: starEach es X.env := by rfl) (hpl : (backTo pos (starEach es X.env)).any (·.1) = false := by rfl) :
    PE X (.Call (.Name "Record" p) (e :: es) [] pos) (tMake C (spRInit C) [] E0 t) := by
  obtain ⟨f, fd, M1, F, b⟩ := M.ex
  exact pe_make M1 F hr hg M.g b .nil pass0 ha (by decide) he hpl
def NLw : List Str := ["_law_script", "_law_levels", "_law_rows_here", "_law_records", "_law_k", "_law_draws_here", "_law_left", "_law_some", "_law_turn", "_law_saved", "_law_record", "_law_parts", "_law_same", "_law_other", "_law_mark", "_law_stamp", "_law_after"]
theorem scLaw : FnScope NLw ["_law_script"] (defScope sLaw) := ⟨rfl, rfl, rfl, by decide +kernel, rfl, by decide +kernel, by decide +kernel⟩
def spLaw (K : PySem.W.Frag) : Sp := fun vs H Q _ => ∃ (a : Addr) (ns : List Int), vs = [.ref a] ∧ SqL K H a (ns.map V.int) ∧ ns.length ≤ 63 ∧ ∀ H', Q (.bl true) H'
end K54
set_option maxHeartbeats 8000000
namespace K54
open PySem PySem.Spec PyProof.Rows L2 Evl My LamX
/-! pieces of the law's reading -/
def prD (K : PySem.W.Frag) (d : PyData) : Pr := ⟨fun H v => Dd K H v d, fun e h => Dd.ext e _ _ h⟩
def EvRec (K : PySem.W.Frag) (C : Addr) (te : TE) (σ : L2.St) (H : Hp) (r : Rc) : Prop := ∀ H1, Ex H H1 → ∀ Q : VK, (∀ x H2, H1 x = none → Ex H1 H2 → RecAt K C H2 x r → Q (.ref x) H2) → te σ H1 Q
theorem All2.get {ps : List Pr} {H : Hp} {vs : List V} (h : All2 ps H vs) : ∀ {i : Nat} {v : V}, vs[i]? = some v → ∃ p, ps[i]? = some p ∧ p.p H v := by
  induction h with
  | nil =>
    intro i v e
    simp at e
  | cons h _ ih =>
    intro i v e
    cases i with
    | zero =>
      cases e
      exact ⟨_, rfl, h⟩
    | succ i => exact ih (show _ = _ from e)
theorem all5 {p q r u x : Pr} {H : Hp} {vs : List V} (h : All2 [p, q, r, u, x] H vs) : ∃ a b c d e, vs = [a, b, c, d, e] ∧ p.p H a ∧ q.p H b ∧ r.p H c ∧ u.p H d ∧ x.p H e := by
  cases h with
  | cons h1 h =>
    obtain ⟨a, b, c, d, rfl, h2, h3, h4, h5⟩ := all4 h
    exact ⟨_, _, _, _, _, rfl, h1, h2, h3, h4, h5⟩
section
variable {K : PySem.W.Frag} {C CL : Addr} {σ : L2.St} {H : Hp} {te : TE} {ta : TA} {r q : Rc} {D : Ends} {tz : TS}
theorem ep_of {p : Pr} {v : V} (h : Ev te σ H v) (g : p.p H v) : EvP te σ H p := fun H1 e Q k => h H1 e _ fun H2 e2 => k v H2 e2 (p.m (e.trans e2) g)
theorem rec_ev (a : EvPs ta σ H [prK r.ky, prC (.int r.st), prA r.af, prD K r.act, prC .non]) : EvRec K C (tMake C (spRInit C) [] E0 ta) σ H r := fun H1 e Q k => a H1 e _ fun vs H2 e2 g => by
  obtain ⟨vm, vs, va, vt, vf, rfl, ⟨m, rfl, hm⟩, hs, ha, ht, hf⟩ := all5 g
  have hs : vs = .int r.st := hs
  have hf : vf = .non := hf
  subst hs
  subst hf
  intro x dx nx ndx nn
  refine ⟨x, dx, .ref m, va, vt, .non, r.st, rfl, upd_same, fun H5 b hx => ⟨rfl, ?_⟩⟩
  have e5 : Ex H2 H5 := ex_made (Ex.refl H2) nx ndx b
  exact k x H5 (fresh_back e2 nx) (e2.trans e5) ⟨dx, m, va, vt, hx, e5 _ _ hm, KmV.ext e5 ha, Dd.ext e5 _ _ ht⟩
theorem q_asgR {i : Nat} (h : EvRec K C te σ H r) (k : ∀ x H1, H x = none → Ex H H1 → RecAt K C H1 x r → tz D (σ.set i (some (.ref x))) H1) : tSeq (tAsg te (gName i)) tz D σ H := h H (Ex.refl H) _ k
/-- the parts of a record, as a list's items -/
def PartsAt (K : PySem.W.Frag) (H : Hp) (b : Addr) (r : Rc) : Prop := ∃ m va vt, H b = some (.lst [.ref m, .int r.st, va, vt, .non]) ∧ H m = some (.tup (r.ky.map kV)) ∧ KmV H va r.af ∧ Dd K H vt r.act
theorem PartsAt.ext {H' : Hp} {b : Addr} (e : Ex H H') (h : PartsAt K H b r) : PartsAt K H' b r := by
  obtain ⟨m, va, vt, h1, h2, h3, h4⟩ := h
  exact ⟨m, va, vt, e _ _ h1, e _ _ h2, h3.ext e, Dd.ext e _ _ h4⟩
theorem ev_part {i j : Nat} {b : Addr} {xs : List V} {v : V} (h0 : σ[i]? = some (some (.ref b))) (hb : H b = some (.lst xs)) (hj : xs[j]? = some v) : Ev (tOp (rIxL K) (tVar i) (tC (.int (j : Int)))) σ H v := ev_op (ev_var h0) ev_c (rv_ixL (sq_of hb) (atI_nat hj))
theorem parts_ep {i : Nat} {b : Addr} (h0 : σ[i]? = some (some (.ref b))) (h : PartsAt K H b r) : EvP (tOp (rIxL K) (tVar i) (tC (.int 0))) σ H (prK r.ky) ∧ EvP (tOp (rIxL K) (tVar i) (tC (.int 1))) σ H (prC (.int r.st)) ∧ EvP (tOp (rIxL K) (tVar i) (tC (.int 2))) σ H (prA r.af) ∧ EvP (tOp (rIxL K) (tVar i) (tC (.int 3))) σ H (prD K r.act) ∧ EvP (tOp (rIxL K) (tVar i) (tC (.int 4))) σ H (prC .non) := by
  obtain ⟨m, va, vt, h1, h2, h3, h4⟩ := h
  exact ⟨ep_of (ev_part (j := 0) h0 h1 rfl) ⟨m, rfl, h2⟩, ep_of (ev_part (j := 1) h0 h1 rfl) rfl, ep_of (ev_part (j := 2) h0 h1 rfl) h3, ep_of (ev_part (j := 3) h0 h1 rfl) h4, ep_of (ev_part (j := 4) h0 h1 rfl) rfl⟩
end
section
variable {K : PySem.W.Frag} {C CL : Addr} {H : Hp}
theorem ep_word {σ : L2.St} {x : Str} : EvP (tTup (tCons (tC (.str x)) tNil)) σ H (prD K (.tuple [.str x])) := fun H1 e Q q => ⟨(show 1 ≤ sizeLine by decide), fun tp ntp => q (.ref tp) _ (Ex.new ntp) (.tup (st_of upd_same) (.cons (.str _) .nil))⟩
theorem yes_if {σ : L2.St} {A B : Hp → Prop} (h : A H) : tYes σ H (fun b H3 => if b = true then A H3 else B H3) := by
  show (if true = true then A H else B H)
  rw [if_pos rfl]
  exact h
theorem row_at {ws : List V} {H' : Hp} (al : All2 (rowsD.map prR) H' ws) {i : Nat} {x : V} (hx : ws[i]? = some x) : i < 11 ∧ ∃ t m va, x = .ref t ∧ H' t = some (.tup [.ref m, .int (rwN i).st, va]) ∧ H' m = some (.tup ((rwN i).ky.map kV)) ∧ KmV H' va (rwN i).af := by
  obtain ⟨p, hp, g⟩ := al.get hx
  rw [List.getElem?_map] at hp
  cases hz : rowsD[i]? with
  | none =>
    rw [hz] at hp
    cases hp
  | some d =>
    rw [hz] at hp
    cases hp
    have lt := (List.getElem?_eq_some_iff.mp hz).1
    have e : rwD i = d := by
      unfold rwD
      rw [List.getD, hz]
      rfl
    obtain ⟨t, vs, rfl, ht, ha⟩ := g
    obtain ⟨vm, vst, va, rfl, ⟨m, rfl, hm⟩, hs, hf⟩ := all3 ha
    have hs : vst = .int d.2.1 := hs
    subst hs
    subst e
    exact ⟨lt, t, m, va, rfl, ht, hm, hf⟩
def tRecs (K : PySem.W.Frag) (C : Addr) : TE := tLc (iList K (tVar 2)) (gTup K 3 (gCons (gName 14) (gCons (gName 15) (gCons (gName 16) gNil)))) tYes (tMake C (spRInit C) [] E0 (tCons (tVar 14) (tCons (tVar 15) (tCons (tVar 16) (tCons (tTup (tCons (tC (.str "undo")) tNil)) (tCons (tC .non) tNil)))))) [14, 15, 16]
theorem recs_lc {a J l : Addr} {ws : List V} {Q : VK} (hl : H l = some (.lst ws)) (al : All2 (rowsD.map prR) H ws) (k : ∀ R ads H', H R = none → Ex H H' → H' R = some (.lst (ads.map V.ref)) → RcsA K C H' ads → Q (.ref R) H') :
    tRecs K C ([some (.ref a), some (.ref J), some (.ref l), none, none, none, none, none, none, none, none, none, none, none, none, none, none] : L2.St) H Q := by
  have lenw : ws.length = 11 := al.len
  refine ⟨_, rfl, l, rfl, ⟨_, sq_of hl⟩, fun R nR => lc_list (xs := ws) (fun i H' => Ex H H' ∧ ∃ ads : List Addr, ads.length = i ∧ ads.Nodup ∧ H' R = some (.lst (ads.map V.ref)) ∧ ∀ j a, ads[j]? = some a → RecAt K C H' a (rwN j)) ?_ ?_ ?_ ?_⟩
  · exact ⟨Ex.new nR, [], rfl, List.nodup_nil, upd_same, fun j a h => by simp at h⟩
  · rintro i H' _ ⟨e, _⟩
    exact sq_of (e _ _ hl)
  · rintro i x H' hx ⟨e, ads, len, nd, hR, rc⟩
    obtain ⟨i11, t, m, va, rfl, ht, hm, hf⟩ := row_at (al.ext e) hx
    refine ⟨t, _, rfl, st_of ht, rfl, _, _, rfl, _, _, rfl, _, _, rfl, rfl, rfl, ?_⟩
    refine yes_if ?_
    have ev := rec_ev (K := K) (C := C) (r := rwN i) (H := H') (σ := ([some (.ref a), some (.ref J), some (.ref l), none, none, none, none, none, none, none, none, none, none, none, some (.ref m), some (.int (rwN i).st), some va] : L2.St)) (eps_cons (ep_var (i := 14) rfl ⟨m, rfl, hm⟩) (eps_cons (ep_var (i := 15) rfl rfl) (eps_cons (ep_var (i := 16) rfl hf) (eps_cons (ep_word (K := K)) (eps_cons ep_c eps_nil)))))
    refine ev H' (Ex.refl _) _ fun x H2 nx e2 rx => ?_
    have ilen : i < 11 := i11
    have hR2 := e2 _ _ hR
    refine ⟨_, hR2, sz_lt (by rw [List.length_map]; omega), ?_⟩
    have eU : ∀ {b : Addr} {o : HO}, H2 b = some o → (∀ xs, o ≠ .lst xs) → (upd H2 R (.lst (ads.map V.ref ++ [.ref x]))) b = some o := fun {b o} hb n => by
      rw [upd_ne (fun z => by rw [z, hR2] at hb; exact n _ (Option.some.inj hb).symm)]
      exact hb
    have recU : ∀ {b : Addr} {j : Nat}, RecAt K C H2 b (rwN j) → RecAt K C (upd H2 R (.lst (ads.map V.ref ++ [.ref x]))) b (rwN j) := fun {b j} h => by
      obtain ⟨dx, m, va, vt, h1, h2, h3, h4⟩ := h
      exact ⟨dx, m, va, vt, eU h1 (fun _ z => nomatch z), eU h2 (fun _ z => nomatch z), kmv_pres (fun b xs q => eU q (fun _ z => nomatch z)) h3, Dd.upd hR2 _ _ rfl h4⟩
    refine ⟨fun b o hb => ?_, ads ++ [x], by rw [List.length_append, len]; rfl, ?_, ?_, fun j b hj => ?_⟩
    · rw [upd_ne (ne_of_none hb nR)]
      exact (e.trans e2) b o hb
    · refine List.nodup_append.mpr ⟨nd, by simp, fun y hy z hz ez => ?_⟩
      obtain ⟨j, hj⟩ := List.mem_iff_getElem?.mp hy
      obtain ⟨dx, m2, va2, vt2, h1, _⟩ := rc j y hj
      rw [ez, List.mem_singleton.mp hz, nx] at h1
      cases h1
    · rw [upd_same, List.map_append]
      rfl
    · by_cases hlt : j < ads.length
      · rw [List.getElem?_append_left hlt] at hj
        exact recU ((rc j b hj).ext e2)
      · rw [List.getElem?_append_right (Nat.le_of_not_lt hlt)] at hj
        have z := List.getElem?_eq_some_iff.mp hj
        obtain ⟨z1, z2⟩ := z
        have j0 : j - ads.length = 0 := by simpa using z1
        have jl : j = i := by omega
        subst jl
        have bx : x = b := by simpa [j0] using z2
        subst bx
        exact recU rx
  · rintro H' ⟨e, ads, len, nd, hR, rc⟩
    rw [lenw] at len
    refine k R ads H' nR e hR ⟨len, nd, fun a m => ?_⟩
    obtain ⟨j, hj⟩ := List.mem_iff_getElem?.mp m
    have h := rc j a hj
    unfold recA
    rw [ixA_at nd hj]
    exact h
def tupD (ks : List L2.Key) : PyData := .tuple (ks.map kD)
def dueL : List PyData := dueD.map tupD
theorem due_sh : noDict (.list dueL) = true ∧ SeqAt.shaped (.list dueL) = true := by decide +kernel
theorem dds_keys {H : Hp} : ∀ {kss : List (List L2.Key)} {vs : List V}, All2 (kss.map prK) H vs → Dds K H vs (kss.map tupD)
  | [], _, h => by
    cases h
    exact .nil
  | ks :: kss, _, h => by
    cases h with
    | cons h1 h2 =>
      obtain ⟨m, rfl, hm⟩ := h1
      exact .cons (dd_tup hm) (dds_keys h2)
theorem due_ed {σ : L2.St} : EvD K (tCall spDue [] E0 tNil) σ H (.list dueL) := fun H1 e Q q => ⟨rfl, fun l ws H' nl e' hl al => q (.ref l) H' e' (.lst (sq_of hl) (dds_keys al))⟩
theorem mof_of {ads : List Addr} (hA : RcsA K C H ads) : ∃ mof : Addr → Addr, ∀ a ∈ ads, H (mof a) = some (.tup ((recA ads a).ky.map kV)) ∧ ∃ dx va vt, H a = some (.ins C dx (fsR (.ref (mof a)) va vt (recA ads a).st)) := by
  have h : ∀ a : Addr, ∃ m : Addr, a ∈ ads → H m = some (.tup ((recA ads a).ky.map kV)) ∧ ∃ dx va vt, H a = some (.ins C dx (fsR (.ref m) va vt (recA ads a).st)) := fun a => by
    by_cases ma : a ∈ ads
    · obtain ⟨dx, m, va, vt, h1, h2, _⟩ := hA.at_ a ma
      exact ⟨m, fun _ => ⟨h2, dx, va, vt, h1⟩⟩
    · exact ⟨0, fun z => absurd z ma⟩
  exact ⟨fun a => Classical.choose (h a), fun a m => Classical.choose_spec (h a) m⟩
def noE : XK := fun _ _ _ => False
theorem marks_dds {ads : List Addr} (len : ads.length = 11) (nd : ads.Nodup) {mof : Addr → Addr} (hm : ∀ a ∈ ads, H (mof a) = some (.tup ((recA ads a).ky.map kV))) : Dds K H ((outI.map (adA ads)).map fun a => V.ref (mof a)) dueL := by
  have gen : ∀ {is : List Nat}, (∀ i ∈ is, i < 11) → Dds K H ((is.map (adA ads)).map fun a => V.ref (mof a)) (is.map fun i => tupD (rwN i).ky) := fun {is} => by
    induction is with
    | nil => exact fun _ => .nil
    | cons i is ih =>
      intro h
      have hi := h i (List.mem_cons_self ..)
      have z := hm _ (ad_mem len hi)
      rw [rec_ad len nd hi] at z
      exact .cons (dd_tup z) (ih fun j m => h j (List.mem_cons_of_mem _ m))
  have e : dueL = outI.map fun i => tupD (rwN i).ky := by
    unfold dueL
    rw [← out_due, List.map_map]
    rfl
  rw [e]
  exact gen (by decide)
theorem marks_ed {ads ss : List Addr} {a J Sm : Addr} {o2 o3 o4 o5 o6 o8 o9 o10 o11 o12 o13 o14 o15 o16 : Option V} (c : RcC K C) (hA : RcsA K C H ads) (lv : LvAt CL H J NSx blx) (hL : H Sm = some (.lst (ss.map V.ref))) (cover : ∀ a ∈ ads, a ∈ ss) (sub : ∀ a ∈ ss, a ∈ ads) (len : ss.length ≤ 400) :
    EvD K (tLc (iList K (tCall (spRioA K CL C) [] noE (tCons (tVar 1) (tCons (tVar 7) tNil)))) (gName 10) tYes (tFld K (tVar 10) "mark") [10]) ([some (.ref a), some (.ref J), o2, o3, o4, o5, o6, some (.ref Sm), o8, o9, o10, o11, o12, o13, o14, o15, o16] : L2.St) H (.list dueL) := by
  have hS : EvL (tCall (spRioA K CL C) [] noE (tCons (tVar 1) (tCons (tVar 7) tNil))) ([some (.ref a), some (.ref J), o2, o3, o4, o5, o6, some (.ref Sm), o8, o9, o10, o11, o12, o13, o14, o15, o16] : L2.St) H ((outI.map (adA ads)).map V.ref) := fun H1 e Q q =>
    ⟨_, rfl, _, rfl, rio_go (hA.ext e) (lv.ext e) (ex_l e (sq_of hL)) cover sub len fun p H' np e' hp => q p H' np e' hp⟩
  obtain ⟨mof, hm⟩ := mof_of hA
  have hL2 := el_lcNL (K := K) (j := 10) (vs := [10]) (t := tYes) (te := tFld K (tVar 10) "mark") (fun _ => true) (fun i => V.ref (mof ((outI.map (adA ads)).getD i 0))) hS (by rw [List.length_map, List.length_map]; decide) (fun x => rfl) (fun i x H2 e2 hx => et_yes) (fun i x H2 e2 hx _ => by
    obtain ⟨b, hb, rfl⟩ : ∃ b, (outI.map (adA ads))[i]? = some b ∧ V.ref b = x := by
      rw [List.getElem?_map] at hx
      cases hz : (outI.map (adA ads))[i]? with
      | none =>
        rw [hz] at hx
        cases hx
      | some s =>
        rw [hz] at hx
        exact ⟨s, rfl, Option.some.inj hx⟩
    have mb : b ∈ ads := by
      obtain ⟨j, mj, rfl⟩ := List.mem_map.mp (List.mem_of_getElem? hb)
      exact ad_mem hA.len ((by decide : ∀ j ∈ outI, j < 11) j mj)
    have eg : (outI.map (adA ads)).getD i 0 = b := by
      rw [List.getD, hb]
      rfl
    show Ev _ _ H2 (V.ref (mof ((outI.map (adA ads)).getD i 0)))
    rw [eg]
    obtain ⟨_, dx, va, vt, h1⟩ := hm b mb
    exact fun H3 e3 Q q => ⟨_, rfl, b, C, dx, _, _, rfl, (e2.trans e3) _ _ h1, c.cl, c.n1, rfl, q H3 (Ex.refl _)⟩)
  rw [List.length_map, given_map (outI.map (adA ads)) 0 fun a => V.ref (mof a)] at hL2
  exact fun H1 e Q q => hL2 H1 e _ fun p H2 np e2 hp => q (.ref p) H2 e2 (.lst (sq_of hp) (marks_dds hA.len hA.nd fun b mb => (e.trans e2) _ _ (hm b mb).1))
end
end K54
set_option maxHeartbeats 16000000
namespace K54
open PySem PySem.Spec PyProof.Rows L2 Evl My LamX
def rwP (i : Nat) : Rc := ⟨(rwN i).ky, (rwN i).st + 1, (rwN i).af, (rwN i).act⟩
def rwR (i : Nat) : Rc := ⟨(rwN i).ky, (rwN i).st, (rwN i).af, .tuple [.str "redo"]⟩
theorem ne_plus : (List.range 11).all (fun i => !recEq (rwN i) (rwP i)) = true := by decide +kernel
theorem ne_redo : (List.range 11).all (fun i => !recEq (rwN i) (rwR i)) = true := by decide +kernel
theorem ok_redo : (List.range 11).all (fun i => rcOk (rwR i)) = true := by decide +kernel
theorem erase_map : ∀ (l : List Addr) (k : Nat), (l.map V.ref).eraseIdx k = (l.eraseIdx k).map V.ref
  | [], _ => rfl
  | _ :: _, 0 => rfl
  | x :: l, k + 1 => by
    show V.ref x :: (l.map V.ref).eraseIdx k = V.ref x :: (l.eraseIdx k).map V.ref
    rw [erase_map l k]
theorem mem_er : ∀ {l : List Addr} {k : Nat} {a : Addr} (h : k < l.length), a ∈ l → a = l[k] ∨ a ∈ l.eraseIdx k
  | x :: l, 0, a, h, m => by
    rcases List.mem_cons.mp m with e | m
    · exact .inl e
    · exact .inr m
  | x :: l, k + 1, a, h, m => by
    rcases List.mem_cons.mp m with e | m
    · exact .inr (by rw [e]; exact List.mem_cons_self ..)
    · rcases mem_er (l := l) (k := k) (by simpa using h) m with e | m
      · exact .inl e
      · exact .inr (List.mem_cons_of_mem _ m)
theorem turns40 {j : Int} (h0 : 0 ≤ j) : (let q := if (if j < (40 : Int) then j else 40) > 1 then (if j < (40 : Int) then j else 40) else 1; q ≤ 40 ∧ 1 ≤ q) := by
  show (if (if j < (40 : Int) then j else 40) > 1 then (if j < (40 : Int) then j else 40) else 1) ≤ 40 ∧ 1 ≤ (if (if j < (40 : Int) then j else 40) > 1 then (if j < (40 : Int) then j else 40) else 1)
  split <;> split <;> omega
section
variable {P : Program} {w : World} {K : PySem.W.Frag} {mg : Str → Option Value} {base : Heap} {f CL C D1 : Addr} {fd : FuncData}
theorem ok_law (F : Fun K "law" "law" sLaw f fd) (TX : Txt mg) (hR : mg "range" = none) (c : RcC K C) (cl : LvC K CL) (M : RqL P w K mg base C) (LM : MkL P w K mg base CL D1) (MR : MkR P w K mg base C)
    (DRW : Df P w K mg base "_law_draws" ["_law_script", "_law_k"] 1 (spPool K)) (TK : Df P w K mg base "_law_draw" ["_law_draws_here", "_law_upto"] 1 spTake) (ROW : Df P w K mg base "_law_rows" [] 1 spRows) (DUE : Df P w K mg base "_law_due" [] 1 spDue)
    (RIO : Dx P w K mg base "records_in_order" ["levels", "records"] 6 (spRioA K CL C)) : FnOk P w K mg base CX0 7 f fd ["_law_script"] (spLaw K) := by
  refine F.ok scLaw (fun vs H Q E h => ?_) (fun cdv A outer s H vs Q E hr h => ?_)
  · obtain ⟨a, ns, rfl, _⟩ := h
    rfl
  · obtain ⟨a, ns, rfl, hS, hlen, kQ⟩ := h
    have hr6 : Room 6 _ := hr
    have hr5 : Room 5 _ := hr6.mono (by decide)
    have hr2 : Room 2 _ := hr6.mono (by decide)
    have hr1 : Room 1 _ := hr6.mono (by decide)
    have hu : (A.deeper (envOfC "law" (defScope sLaw) s.heap.objs.size f cdv)).units < cLine := Nat.lt_of_le_of_lt (by omega) hr.units
    refine ⟨_, (pss_cons (ps_set (i := 1) scLaw.nd rfl (Or.inl rfl) (mkLv LM hr5 (by rfl) noWay (pa_cons (pe_lstB (pa_cons pe_str (pa_cons pe_str (pa_cons pe_str (pa_cons pe_str pa_nil))))) (pa_cons (pe_lstB (pa_cons (pe_tup (pa_cons pe_str (pa_cons pe_str pa_nil))) (pa_cons (pe_tup (pa_cons pe_str (pa_cons pe_str pa_nil))) pa_nil))) pa_nil))))
      (pss_cons (ps_set (i := 2) scLaw.nd rfl (Or.inl rfl) (pe_df0 ROW hr1 rfl))
      (pss_cons (ps_setLc (i := 3) (own := [("_law_mark", 14), ("_law_stamp", 15), ("_law_after", 16)]) (g := gTup K 3 (gCons (gName 14) (gCons (gName 15) (gCons (gName 16) gNil)))) (tt := tYes) (te := tMake C (spRInit C) [] E0 (tCons (tVar 14) (tCons (tVar 15) (tCons (tVar 16) (tCons (tTup (tCons (tC (.str "undo")) tNil)) (tCons (tC .non) tNil)))))) rfl scLaw.nd rfl rfl (sw_true rfl rfl rfl (by decide +kernel)) (pi_list (pv 2)) (blkOk_by (own := [("_law_mark", 14), ("_law_stamp", 15), ("_law_after", 16)]) (N := NLw) (sc := defScope sLaw) (by decide +kernel)) (fun _ _ _ _ _ => pg_tup rfl (pgs_cons (pg_name (i := 14) scLaw.nd rfl (Or.inl rfl)) (pgs_cons (pg_name (i := 15) scLaw.nd rfl (Or.inl rfl)) (pgs_cons (pg_name (i := 16) scLaw.nd rfl (Or.inl rfl)) pgs_nil)))) (fun _ _ _ _ _ => pts_nil) (fun _ _ _ _ _ => (mkRc MR hr2 (by rfl) (pa_cons (pv 14) (pa_cons (pv 15) (pa_cons (pv 16) (pa_cons (pe_tup (pa_cons pe_str pa_nil)) (pa_cons pe_non pa_nil))))))))
      (pss_cons (ps_for PassesOwn.never rfl (pi_range1 rfl hR (pa_cons (pe_callB (call_max2 rfl) (by rfl) TX.max (by decide +kernel) (pa_cons pe_int (pa_cons (pe_callB (call_min2 rfl) (by rfl) TX.min (by decide +kernel) (pa_cons pe_int (pa_cons (pe_callB call_len_seq (by rfl) TX.len (by decide +kernel) (pa_cons (pv 0) pa_nil)) pa_nil))) pa_nil))) pa_nil)) (pg_name (i := 4) scLaw.nd rfl (Or.inl rfl)) (pss_cons (ps_set (i := 5) scLaw.nd rfl (Or.inl rfl) (pe_df DRW hr1 rfl (pa_cons (pv 0) (pa_cons (pv 4) pa_nil))))
      (pss_cons (ps_par (i := 6) (j := 7) rfl scLaw.nd rfl rfl (by decide) rfl rfl (pa_cons (pe_callTy call_list_of (by rfl) TX.lst (by decide +kernel) (pa_cons (pv 3) pa_nil)) (pa_cons (pe_lst pa_nil) pa_nil)) (by rfl))
      (pss_cons (ps_for PassesOwn.never rfl (pi_range1 rfl hR (pa_cons (pe_callB call_len_seq (by rfl) TX.len (by decide +kernel) (pa_cons (pv 3) pa_nil)) pa_nil)) (pg_name (i := 8) scLaw.nd rfl (Or.inl rfl)) (pss_cons (ps_expr (pe_bm PySem.F.plainAttrs_list PySem.F.slot_list_append PySem.F.type_list_append mt_append (pv 7) (pa_cons (pe_bm PySem.F.plainAttrs_list PySem.F.slot_list_pop PySem.F.type_list_pop mt_popAt (pv 6) (pa_cons (pe_df TK hr1 rfl (pa_cons (pv 5) (pa_cons (pe_callB call_len_seq (by rfl) TX.len (by decide +kernel) (pa_cons (pv 6) pa_nil)) pa_nil))) pa_nil)) pa_nil)))
      (pss_one (ps_if (pt_cmpR op_eq (pe_df TK hr1 rfl (pa_cons (pv 5) (pa_cons pe_int pa_nil))) pe_int (nomark _)) (pss_one (ps_expr (pe_bm PySem.F.plainAttrs_list PySem.F.slot_list_append PySem.F.type_list_append mt_append (pv 7) (pa_cons (pe_ix ix_list (pv 7) pe_int (fun _ _ => rfl)) pa_nil)))) pss_nil))))
      (pss_cons (ps_set (i := 9) scLaw.nd rfl (Or.inl rfl) (pe_callTy call_list_of (by rfl) TX.lst (by decide +kernel) (pa_cons (pv 7) pa_nil)))
      (pss_cons (ps_if (PW.pt (pw_or (pt_cmpR (op_neD hr1.units) (pe_lc (own := [("_law_record", 10)]) (g := gName 10) (tt := tYes) (te := tFld K (tVar 10) "mark") rfl scLaw.nd (pi_list (pe_dx RIO hr6 rfl noWay (pa_cons (pv 1) (pa_cons (pv 7) pa_nil)))) (blkOk_by (own := [("_law_record", 10)]) (N := NLw) (sc := defScope sLaw) (by decide +kernel)) (fun _ _ _ _ _ => pg_name (i := 10) scLaw.nd rfl (Or.inl rfl)) (fun _ _ _ _ _ => pts_nil) (fun _ _ _ _ _ => pe_fld (pv 10) rfl)) (pe_df0 DUE hr1 rfl) (nomark _)) (pw_or1 (pt_cmpR (op_neSame hu) (pv 7) (pv 9) (nomark _))))) (pss_one (ps_ret pe_bl)) pss_nil)
      (pss_cons (ps_set (i := 10) scLaw.nd rfl (Or.inl rfl) (pe_ix ix_list (pv 7) (pe_df TK hr1 rfl (pa_cons (pv 5) (pa_cons (pe_callB call_len_seq (by rfl) TX.len (by decide +kernel) (pa_cons (pv 7) pa_nil)) pa_nil))) (fun _ _ => rfl)))
      (pss_cons (ps_set (i := 11) scLaw.nd rfl (Or.inl rfl) (pe_lst (pa_cons (pe_fld (pv 10) rfl) (pa_cons (pe_fld (pv 10) rfl) (pa_cons (pe_fld (pv 10) rfl) (pa_cons (pe_fld (pv 10) rfl) (pa_cons (pe_fld (pv 10) rfl) pa_nil)))))))
      (pss_cons (ps_set (i := 12) scLaw.nd rfl (Or.inl rfl) (mkRc MR hr2 (by rfl) (pa_cons (pe_ix ix_list (pv 11) pe_int (fun _ _ => rfl)) (pa_cons (pe_ix ix_list (pv 11) pe_int (fun _ _ => rfl)) (pa_cons (pe_ix ix_list (pv 11) pe_int (fun _ _ => rfl)) (pa_cons (pe_ix ix_list (pv 11) pe_int (fun _ _ => rfl)) (pa_cons (pe_ix ix_list (pv 11) pe_int (fun _ _ => rfl)) pa_nil)))))))
      (pss_cons (ps_set (i := 13) scLaw.nd rfl (Or.inl rfl) (mkRc MR hr2 (by rfl) (pa_cons (pe_ix ix_list (pv 11) pe_int (fun _ _ => rfl)) (pa_cons (pe_op op_add (pe_ix ix_list (pv 11) pe_int (fun _ _ => rfl)) pe_int) (pa_cons (pe_ix ix_list (pv 11) pe_int (fun _ _ => rfl)) (pa_cons (pe_ix ix_list (pv 11) pe_int (fun _ _ => rfl)) (pa_cons (pe_ix ix_list (pv 11) pe_int (fun _ _ => rfl)) pa_nil)))))))
      (pss_cons (ps_if (PW.pt (pw_or (pt_cmpR (op_neR M hr2) (pv 10) (pv 12) (nomark _)) (pw_or1 (pt_cmpR (op_eqR M hr1) (pv 10) (pv 13) (nomark _))))) (pss_one (ps_ret pe_bl)) pss_nil)
      (pss_one (ps_if (PW.pt (pw_or (pt_cmpR (op_eqR M hr1) (pv 10) (mkRc MR hr2 (by rfl) (pa_cons (pe_ix ix_list (pv 11) pe_int (fun _ _ => rfl)) (pa_cons (pe_ix ix_list (pv 11) pe_int (fun _ _ => rfl)) (pa_cons (pe_ix ix_list (pv 11) pe_int (fun _ _ => rfl)) (pa_cons (pe_tup (pa_cons pe_str pa_nil)) (pa_cons pe_non pa_nil)))))) (nomark _)) (pw_or1 (pt_cmpR (op_eqR M hr1) (pv 10) (pe_callTy call_tuple_of (by rfl) TX.tup (by decide +kernel) (pa_cons (pv 11) pa_nil)) (nomark _))))) (pss_one (ps_ret pe_bl)) pss_nil)))))))))))))
      (pss_one (ps_ret (pe_cmpR (op_eqD hr1.units) (pe_dx RIO hr6 rfl noWay (pa_cons (pv 1) (pa_cons (pe_lst pa_nil) pa_nil))) (pe_lst pa_nil) (nomark _)))))))), ?_⟩
    have d1s : EvDs K (tCons (tLstB (tCons (tC (.str "open")) (tCons (tC (.str "red")) (tCons (tC (.str "blue")) (tCons (tC (.str "top")) tNil))))) (tCons (tLstB (tCons (tTup (tCons (tC (.str "red")) (tCons (tC (.str "top")) tNil))) (tCons (tTup (tCons (tC (.str "blue")) (tCons (tC (.str "top")) tNil))) tNil))) tNil)) (start NLw [.ref a]) H [.list (txts NSx), .list [.tuple [.str "red", .str "top"], .tuple [.str "blue", .str "top"]]] :=
      eds_cons (ed_lst (eds_cons (ed_str ev_c) (eds_cons (ed_str ev_c) (eds_cons (ed_str ev_c) (eds_cons (ed_str ev_c) eds_nil)))) (by decide)) (eds_cons (ed_lst (eds_cons (ed_tup (eds_cons (ed_str ev_c) (eds_cons (ed_str ev_c) eds_nil)) (by decide)) (eds_cons (ed_tup (eds_cons (ed_str ev_c) (eds_cons (ed_str ev_c) eds_nil)) (by decide)) eds_nil)) (by decide)) eds_nil)
    refine q_asgLv (C := CL) (ns := NSx) (bl := blx) (made (D1 := D1) d1s (by decide +kernel) (by decide +kernel) (by decide +kernel) (by decide +kernel) (by decide)) fun J H1 e1 lv1 => ?_
    refine ⟨rfl, fun l ws H2 nl e2 hl al => ?_⟩
    show tSeq (tAsg (tRecs K C) (gName 3)) _ _ ([some (.ref a), some (.ref J), some (.ref l), none, none, none, none, none, none, none, none, none, none, none, none, none, none] : L2.St) H2
    refine q_te (recs_lc hl al fun R ads H3 nR e3 hR3 rcs3 => ?_)
    have lv3 := lv1.ext (e2.trans e3)
    have hS3 : SqL K H3 a (ns.map V.int) := ex_l ((e1.trans e2).trans e3) hS
    have turns := turns40 (j := ((ns.map V.int).length : Int)) (by omega)
    refine q_forR1 (ea_cons (ev_max2 ev_c (ev_min2 ev_c (ev_len (ev_var rfl) hS3))) ea_nil) ⟨Int.le_trans (by decide) turns.2, Int.le_trans turns.1 (by decide)⟩
      (fun i σ' H' => Ex H3 H' ∧ ∃ x4 x5 x6 x7 x8 x9 x10 x11 x12 x13 x14 x15 x16 : Option V, σ' = [some (.ref a), some (.ref J), some (.ref l), some (.ref R), x4, x5, x6, x7, x8, x9, x10, x11, x12, x13, x14, x15, x16]) ?_ ?_ ?_
    · intro H4 e4
      exact ⟨e4, _, _, _, _, _, _, _, _, _, _, _, _, _, rfl⟩
    · rintro i σ' H4 hi ⟨e4, x4, x5, x6, x7, x8, x9, x10, x11, x12, x13, x14, x15, x16, rfl⟩
      have hi40 : (i : Int) < 40 := Int.lt_of_lt_of_le hi turns.1
      refine ⟨_, rfl, _, rfl, a, ns, i, rfl, ex_l e4 hS3, hlen, by omega, fun p c0 z0 H5 np e5 hp cn zn zl => ?_⟩
      have hR5 : H5 R = some (.lst (ads.map V.ref)) := (e4.trans e5) _ _ hR3
      have pool5 : PoolAt H5 p := ⟨c0, z0, hp, cn, zn, zl⟩
      refine ⟨_, rfl, R, _, rfl, .inl (sq_of hR5), fun Lf nL => ⟨Nat.zero_le _, fun Sm nS => ⟨_, _, rfl, ?_⟩⟩⟩
      have pL : p ≠ Lf := ne_of_none hp nL
      have nS5 : H5 Sm = none := fresh_back (Ex.new nL) nS
      have pS : p ≠ Sm := ne_of_none hp nS5
      have LS : Lf ≠ Sm := ne_of_none (upd_same (H := H5) (a := Lf) (o := .lst (ads.map V.ref))) nS
      have nL4 : H4 Lf = none := fresh_back e5 nL
      have nS4 : H4 Sm = none := fresh_back e5 nS5
      have hR6 : (upd (upd H5 Lf (.lst (ads.map V.ref))) Sm (.lst [])) R = some (.lst (ads.map V.ref)) := ((Ex.new nL).trans (Ex.new nS)) _ _ hR5
      have al11 : ads.length = 11 := rcs3.len
      refine q_forR1 (n := 11) (ea_cons (ev_is (ev_len (ev_var rfl) (sq_of hR6)) (by rw [List.length_map, al11]; rfl)) ea_nil) ⟨by decide, by decide⟩
        (fun j σ' H' => (∃ x8 : Option V, σ' = [some (.ref a), some (.ref J), some (.ref l), some (.ref R), some (.int (i : Int)), some (.ref p), some (.ref Lf), some (.ref Sm), x8, x9, x10, x11, x12, x13, x14, x15, x16]) ∧ Ex H4 H' ∧ PoolAt H' p ∧
          ∃ ls ss : List Addr, H' Lf = some (.lst (ls.map V.ref)) ∧ H' Sm = some (.lst (ss.map V.ref)) ∧ ls.length + j = 11 ∧ ss.length ≤ 2 * j ∧ j ≤ ss.length ∧ (∀ a ∈ ads, a ∈ ls ∨ a ∈ ss) ∧ (∀ a ∈ ls, a ∈ ads) ∧ ∀ a ∈ ss, a ∈ ads) ?_ ?_ ?_
      · intro H6 e6
        have e56 : Ex H5 H6 := ((Ex.new nL).trans (Ex.new nS)).trans e6
        refine ⟨⟨_, rfl⟩, e5.trans e56, pool5.ext e56, ads, [], e6 _ _ ?_, e6 _ _ upd_same, by rw [al11], Nat.le_refl _, Nat.le_refl _, fun a m => .inl m, fun a m => m, fun a m => by cases m⟩
        rw [upd_ne LS]
        exact upd_same
      · rintro j σ' H6 hj ⟨⟨x8, rfl⟩, e6, pool, ls, ss, hLf, hSm, ll, sl1, sl2, cov, lsub, ssub⟩
        have j11 : j < 11 := by omega
        refine ⟨_, rfl, .inl ⟨rfl, _, sq_of hSm⟩, _, rfl, .inl ⟨rfl, _, sq_of hLf⟩, take_go (sides := (ls.length : Int)) pool rfl (ev_is (ev_len (ev_var rfl) (sq_of hLf)) (by rw [List.length_map])) ⟨by omega, by omega⟩ fun n H7 n0 n1 b7 pool7 => ?_⟩
        obtain ⟨k, rfl⟩ := Int.eq_ofNat_of_zero_le n0
        have kl : k < ls.length := by omega
        have hLf7 := b7 _ _ (Ne.symm pL) hLf
        have hSm7 := b7 _ _ (Ne.symm pS) hSm
        have kx : (ls.map V.ref)[k]? = some (V.ref ls[k]) := by rw [List.getElem?_map, List.getElem?_eq_getElem kl]; rfl
        refine ⟨Lf, _, _, k, .ref ls[k], rfl, rfl, hLf7, by omega, by omega, (ixN_seq (ixN_nat (by rw [List.length_map]; exact kl))).1, kx, ?_⟩
        refine ⟨Sm, ss.map V.ref, .ref ls[k], rfl, rfl, ?_, sz_lt (by rw [List.length_map]; omega), ?_⟩
        · rw [upd_ne (Ne.symm LS)]
          exact hSm7
        have mk : ls[k] ∈ ls := List.getElem_mem kl
        have eL : (ls.map V.ref).eraseIdx k = (ls.eraseIdx k).map V.ref := erase_map ls k
        have eS : ss.map V.ref ++ [V.ref ls[k]] = (ss ++ [ls[k]]).map V.ref := by
          rw [List.map_append]
          rfl
        rw [eL, eS]
        have pool8 : PoolAt (upd (upd H7 Lf (.lst ((ls.eraseIdx k).map V.ref))) Sm (.lst ((ss ++ [ls[k]]).map V.ref))) p := by
          obtain ⟨c1, z1, hp1, r⟩ := pool7
          refine ⟨c1, z1, ?_, r⟩
          rw [upd_ne pS, upd_ne pL]
          exact hp1
        have hLf8 : (upd (upd H7 Lf (.lst ((ls.eraseIdx k).map V.ref))) Sm (.lst ((ss ++ [ls[k]]).map V.ref))) Lf = some (.lst ((ls.eraseIdx k).map V.ref)) := by
          rw [upd_ne LS]
          exact upd_same
        have hSm8 : (upd (upd H7 Lf (.lst ((ls.eraseIdx k).map V.ref))) Sm (.lst ((ss ++ [ls[k]]).map V.ref))) Sm = some (.lst ((ss ++ [ls[k]]).map V.ref)) := upd_same
        have e8 : Ex H4 (upd (upd H7 Lf (.lst ((ls.eraseIdx k).map V.ref))) Sm (.lst ((ss ++ [ls[k]]).map V.ref))) := fun b o hb => by
          rw [upd_ne (ne_of_none hb nS4), upd_ne (ne_of_none hb nL4)]
          exact b7 _ _ (ne_of_none hb np) (e6 _ _ hb)
        generalize upd (upd H7 Lf (.lst ((ls.eraseIdx k).map V.ref))) Sm (.lst ((ss ++ [ls[k]]).map V.ref)) = H8 at pool8 hLf8 hSm8 e8 ⊢
        have el : (ls.eraseIdx k).length = ls.length - 1 := by rw [List.length_eraseIdx, if_pos kl]
        have cov8 : ∀ a ∈ ads, a ∈ ls.eraseIdx k ∨ a ∈ ss ++ [ls[k]] := fun a m => by
          rcases cov a m with m1 | m1
          · rcases mem_er kl m1 with e | m2
            · exact .inr (List.mem_append_right _ (by rw [e]; exact List.mem_singleton.mpr rfl))
            · exact .inl m2
          · exact .inr (List.mem_append_left _ m1)
        have lsub8 : ∀ a ∈ ls.eraseIdx k, a ∈ ads := fun a m => lsub a (List.mem_of_mem_eraseIdx m)
        have ssub8 : ∀ a ∈ ss ++ [ls[k]], a ∈ ads := fun a m => by
          rcases List.mem_append.mp m with m | m
          · exact ssub a m
          · rw [List.mem_singleton.mp m]
            exact lsub _ mk
        refine take_go (sides := 3) pool8 rfl ev_c ⟨by decide, by decide⟩ fun n H9 n0' n1' b9 pool9 => ?_
        have hLf9 := b9 _ _ (Ne.symm pL) hLf8
        have hSm9 := b9 _ _ (Ne.symm pS) hSm8
        have e9 : Ex H4 H9 := fun b o hb => b9 _ _ (ne_of_none hb np) (e8 _ _ hb)
        refine ⟨rfl, _, rfl, ?_⟩
        refine ite2 (fun hc => ?_) (fun hc => ?_)
        · obtain ⟨y, hy⟩ : ∃ y, (ss ++ [ls[k]])[0]? = some y := by
            have z : 0 < (ss ++ [ls[k]]).length := by
              rw [List.length_append]
              exact Nat.succ_pos _
            exact ⟨_, List.getElem?_eq_getElem z⟩
          have my : y ∈ ss ++ [ls[k]] := List.mem_of_getElem? hy
          have hyV : ((ss ++ [ls[k]]).map V.ref)[0]? = some (V.ref y) := by rw [List.getElem?_map, hy]; rfl
          have sl9 : (ss ++ [ls[k]]).length = ss.length + 1 := by rw [List.length_append]; rfl
          refine ⟨_, rfl, .inl ⟨rfl, _, sq_of hSm9⟩, _, rfl, Sm, _, 0, .ref y, rfl, rfl, sq_of hSm9, atI_nat (j := 0) hyV, Sm, _, .ref y, rfl, rfl, hSm9, sz_lt (by rw [List.length_map, sl9]; omega), ?_⟩
          have eS2 : (ss ++ [ls[k]]).map V.ref ++ [V.ref y] = ((ss ++ [ls[k]]) ++ [y]).map V.ref := by
            rw [List.map_append (l₁ := ss ++ [ls[k]])]
            rfl
          rw [eS2]
          have pool10 : PoolAt (upd H9 Sm (.lst (((ss ++ [ls[k]]) ++ [y]).map V.ref))) p := by
            obtain ⟨c1, z1, hp1, r⟩ := pool9
            refine ⟨c1, z1, ?_, r⟩
            rw [upd_ne pS]
            exact hp1
          refine ⟨⟨_, rfl⟩, fun b o hb => ?_, pool10, _, _, ?_, upd_same, by omega, by rw [List.length_append, sl9]; simp; omega, by rw [List.length_append, sl9]; simp; omega, fun a m => ?_, lsub8, fun a m => ?_⟩
          · rw [upd_ne (ne_of_none hb nS4)]
            exact e9 _ _ hb
          · rw [upd_ne LS]
            exact hLf9
          · rcases cov8 a m with m | m
            · exact .inl m
            · exact .inr (List.mem_append_left _ m)
          · rcases List.mem_append.mp m with m | m
            · exact ssub8 a m
            · rw [List.mem_singleton.mp m]
              exact ssub8 y my
        · refine ⟨⟨_, rfl⟩, e9, pool9, _, _, hLf9, hSm9, by omega, by rw [List.length_append]; simp; omega, by rw [List.length_append]; simp; omega, cov8, lsub8, ssub8⟩
      · rintro σ' H6 ⟨⟨x8, rfl⟩, e6, pool, ls, ss, hLf, hSm, ll, sl1, sl2, cov, lsub, ssub⟩
        have ls0 : ls = [] := List.length_eq_zero_iff.mp (by have : (11 : Int).toNat = 11 := rfl; omega)
        subst ls0
        have s11 : 11 ≤ ss.length ∧ ss.length ≤ 22 := ⟨sl2, sl1⟩
        have cover : ∀ a ∈ ads, a ∈ ss := fun a m => (cov a m).resolve_left fun z => by cases z
        refine ⟨_, rfl, Sm, _, rfl, .inl (sq_of hSm), fun Sv nSv => ?_⟩
        have e7 : Ex H6 (upd H6 Sv (.lst (ss.map V.ref))) := Ex.new nSv
        have hSv : (upd H6 Sv (.lst (ss.map V.ref))) Sv = some (.lst (ss.map V.ref)) := upd_same
        have pool7 := pool.ext e7
        have hSm7 := e7 _ _ hSm
        have e47 := e6.trans e7
        generalize upd H6 Sv (.lst (ss.map V.ref)) = H7 at e7 hSv pool7 hSm7 e47 ⊢
        have rcs7 := rcs3.ext (e4.trans e47)
        have lv7 := lv3.ext (e4.trans e47)
        have same : Ev (tOp (rNeSame K) (tVar 7) (tVar 9)) ([some (.ref a), some (.ref J), some (.ref l), some (.ref R), some (.int (i : Int)), some (.ref p), some (.ref Lf), some (.ref Sm), x8, some (.ref Sv), x10, x11, x12, x13, x14, x15, x16] : L2.St) H7 (.bl false) := fun H8 e8 Q q =>
          ⟨_, rfl, _, rfl, Sm, Sv, ss, rfl, rfl, sq_of (e8 _ _ hSm7), sq_of (e8 _ _ hSv), q H8 (Ex.refl _)⟩
        have marks := ed_neD (marks_ed (K := K) (C := C) (CL := CL) (H := H7) (a := a) (J := J) (Sm := Sm) (o2 := some (.ref l)) (o3 := some (.ref R)) (o4 := some (.int (i : Int))) (o5 := some (.ref p)) (o6 := some (.ref Lf)) (o8 := x8) (o9 := some (.ref Sv)) (o10 := x10) (o11 := x11) (o12 := x12) (o13 := x13) (o14 := x14) (o15 := x15) (o16 := x16) c rcs7 lv7 hSm7 cover ssub (by omega)) due_ed due_sh.1 due_sh.1 due_sh.2 due_sh.2
        have eqv0 : PyData.eqv (.list dueL) (.list dueL) = true := PySem.SeqAt.eqv_refl _ (PySem.SeqAt.canLay_of_shaped due_sh.2)
        rw [eqv0] at marks
        refine q_when (b := false) (et_is (et_or (a := !true) (b := false) (et_test marks) fun _ => et_test same) rfl) (fun z => by cases z) fun _ H8 e8 => ?_
        -- one of them
        have pool8 := pool7.ext e8
        have hSm8 := e8 _ _ hSm7
        refine ⟨_, rfl, take_go (sides := (ss.length : Int)) pool8 rfl (ev_is (ev_len (ev_var rfl) (sq_of hSm8)) (by rw [List.length_map])) ⟨by omega, by omega⟩ fun n H9 n0 n1 b9 pool9 => ?_⟩
        obtain ⟨k, rfl⟩ := Int.eq_ofNat_of_zero_le n0
        have kl : k < ss.length := by omega
        obtain ⟨x, hx⟩ : ∃ x, ss[k]? = some x := ⟨_, List.getElem?_eq_getElem kl⟩
        have mx := ssub x (List.mem_of_getElem? hx)
        have hSm9 := b9 _ _ (Ne.symm pS) hSm8
        have kx : (ss.map V.ref)[k]? = some (V.ref x) := by rw [List.getElem?_map, hx]; rfl
        refine ⟨Sm, _, (k : Int), .ref x, rfl, rfl, sq_of hSm9, atI_nat kx, ?_⟩
        have e9 : Ex H4 H9 := fun b o hb => b9 _ _ (ne_of_none hb np) ((e47.trans e8) _ _ hb)
        have e39 := e4.trans e9
        obtain ⟨ix, hix, _, erx⟩ := rec_ix rcs3.len rcs3.nd mx
        have rx : RecAt K C H9 x (rwN ix) := by
          have z := (rcs3.at_ x mx).ext e39
          rw [erx] at z
          exact z
        have okx : rcOk (rwN ix) = true := all_lt ok_all hix
        obtain ⟨dx, m, va, vt, h1, h2, h3, h4⟩ := id rx
        have fE : ∀ {fld : Str} {v : V} {y11 y12 y13 : Option V}, (fsR (.ref m) va vt (rwN ix).st).lookup fld = some v → NoAttr K C fld → Ev (tFld K (tVar 10) fld) ([some (.ref a), some (.ref J), some (.ref l), some (.ref R), some (.int (i : Int)), some (.ref p), some (.ref Lf), some (.ref Sm), x8, some (.ref Sv), some (.ref x), y11, y12, y13, x14, x15, x16] : L2.St) H9 v := fun hl na H1 e Q q =>
          ⟨_, rfl, x, C, dx, _, _, rfl, e _ _ h1, c.cl, na, hl, q H1 (Ex.refl _)⟩
        refine q_asgL (el_lst (ea_cons (fE rfl c.n1) (ea_cons (fE rfl c.n2) (ea_cons (fE rfl c.n3) (ea_cons (fE rfl c.n4) (ea_cons (fE rfl c.n5) ea_nil))))) (by simp)) fun b H10 nb e10 hb => ?_
        have parts : PartsAt K H10 b (rwN ix) := ⟨m, va, vt, hb, e10 _ _ h2, h3.ext e10, Dd.ext e10 _ _ h4⟩
        have P := fun {y12 y13 : Option V} {H' : Hp} (e : Ex H10 H') => parts_ep (i := 11) (σ := ([some (.ref a), some (.ref J), some (.ref l), some (.ref R), some (.int (i : Int)), some (.ref p), some (.ref Lf), some (.ref Sm), x8, some (.ref Sv), some (.ref x), some (.ref b), y12, y13, x14, x15, x16] : L2.St)) rfl (parts.ext e)
        obtain ⟨p0, p1, p2, p3, p4⟩ := P (y12 := x12) (y13 := x13) (Ex.refl H10)
        refine q_asgR (rec_ev (K := K) (C := C) (r := rwN ix) (eps_cons p0 (eps_cons p1 (eps_cons p2 (eps_cons p3 (eps_cons p4 eps_nil)))))) fun y H11 ny e11 ry => ?_
        obtain ⟨p0, p1, p2, p3, p4⟩ := P (y12 := some (.ref y)) (y13 := x13) e11
        have plus : EvP (tOp (rI0 fun i j => .int (i + j)) (tOp (rIxL K) (tVar 11) (tC (.int 1))) (tC (.int 1))) ([some (.ref a), some (.ref J), some (.ref l), some (.ref R), some (.int (i : Int)), some (.ref p), some (.ref Lf), some (.ref Sm), x8, some (.ref Sv), some (.ref x), some (.ref b), some (.ref y), x13, x14, x15, x16] : L2.St) H11 (prC (.int ((rwN ix).st + 1))) :=
          ep_of (evAdd (ev_part (K := K) (i := 11) (j := 1) rfl (e11 _ _ hb) rfl) ev_c) rfl
        refine q_asgR (rec_ev (K := K) (C := C) (r := rwP ix) (eps_cons p0 (eps_cons plus (eps_cons p2 (eps_cons p3 (eps_cons p4 eps_nil)))))) fun z H12 nz e12 rz => ?_
        have e912 := (e10.trans e11).trans e12
        have rx12 := rx.ext e912
        have ry12 := ry.ext e12
        have okP : rcOk (rwP ix) = true := okx
        have eqs : recEq (rwN ix) (rwN ix) = true := recEq_refl okx
        have nP : recEq (rwN ix) (rwP ix) = false := by
          have z := all_lt ne_plus hix
          simpa using z
        have nR2 : recEq (rwN ix) (rwR ix) = false := by
          have z := all_lt ne_redo hix
          simpa using z
        have okR : rcOk (rwR ix) = true := all_lt ok_redo hix
        have t1 : Ev (tOp (rNeI K C (spREq K C) E0) (tVar 10) (tVar 12)) ([some (.ref a), some (.ref J), some (.ref l), some (.ref R), some (.int (i : Int)), some (.ref p), some (.ref Lf), some (.ref Sm), x8, some (.ref Sv), some (.ref x), some (.ref b), some (.ref y), some (.ref z), x14, x15, x16] : L2.St) H12 (.bl (!recEq (rwN ix) (rwN ix))) := fun H1 e Q q =>
          ⟨_, rfl, _, rfl, ne_rr M (rx12.ext e) (ry12.ext e) okx okx fun H' e' => q H' e'⟩
        have t2 : Ev (tOp (rOwnI K C (spREq K C) E0) (tVar 10) (tVar 13)) ([some (.ref a), some (.ref J), some (.ref l), some (.ref R), some (.int (i : Int)), some (.ref p), some (.ref Lf), some (.ref Sm), x8, some (.ref Sv), some (.ref x), some (.ref b), some (.ref y), some (.ref z), x14, x15, x16] : L2.St) H12 (.bl (recEq (rwN ix) (rwP ix))) := fun H1 e Q q =>
          ⟨_, rfl, _, rfl, eq_rr M (rx12.ext e) (rz.ext e) okx okP fun H' e' => q H' e'⟩
        rw [eqs] at t1
        rw [nP] at t2
        refine q_when (b := false) (et_is (et_or (a := !true) (b := false) (et_test t1) fun _ => et_test t2) rfl) (fun z => by cases z) fun _ H13 e13 => ?_
        have e913 := e912.trans e13
        have parts13 := parts.ext ((e11.trans e12).trans e13)
        obtain ⟨p0, p1, p2, p3, p4⟩ := P (y12 := some (.ref y)) (y13 := some (.ref z)) ((e11.trans e12).trans e13)
        have t3 : Ev (tOp (rOwnI K C (spREq K C) E0) (tVar 10) (tMake C (spRInit C) [] E0 (tCons (tOp (rIxL K) (tVar 11) (tC (.int 0))) (tCons (tOp (rIxL K) (tVar 11) (tC (.int 1))) (tCons (tOp (rIxL K) (tVar 11) (tC (.int 2))) (tCons (tTup (tCons (tC (.str "redo")) tNil)) (tCons (tC .non) tNil))))))) ([some (.ref a), some (.ref J), some (.ref l), some (.ref R), some (.int (i : Int)), some (.ref p), some (.ref Lf), some (.ref Sm), x8, some (.ref Sv), some (.ref x), some (.ref b), some (.ref y), some (.ref z), x14, x15, x16] : L2.St) H13 (.bl (recEq (rwN ix) (rwR ix))) := fun H1 e Q q =>
          ⟨_, rfl, rec_ev (K := K) (C := C) (r := rwR ix) (eps_cons p0 (eps_cons p1 (eps_cons p2 (eps_cons (ep_word (K := K)) (eps_cons ep_c eps_nil))))) H1 e _ fun y2 H14 ny2 e14 ry2 => eq_rr M (rx.ext ((e913.trans e).trans e14)) ry2 okx okR fun H' e' => q H' (e14.trans e')⟩
        have t4 : Ev (tOp (rOwnI K C (spREq K C) E0) (tVar 10) (tCB (fun xs H Q => ∃ p ys, xs = [.ref p] ∧ ((SqL K H p ys ∧ ∀ l, H l = none → Q (.ref l) (upd H l (.tup ys))) ∨ (SqT K H p ys ∧ Q (.ref p) H))) (tCons (tVar 11) tNil))) ([some (.ref a), some (.ref J), some (.ref l), some (.ref R), some (.int (i : Int)), some (.ref p), some (.ref Lf), some (.ref Sm), x8, some (.ref Sv), some (.ref x), some (.ref b), some (.ref y), some (.ref z), x14, x15, x16] : L2.St) H13 (.bl false) := fun H1 e Q q => by
          obtain ⟨m', va', vt', g1, g2, g3, g4⟩ := parts13.ext e
          exact ⟨_, rfl, _, rfl, b, _, rfl, .inl ⟨sq_of g1, fun t nt => eq_rd M (rx.ext ((e913.trans e).trans (Ex.new nt))) (.tup (st_of upd_same) (.cons (dd_tup ((Ex.new nt) _ _ g2)) (.cons (.int _) (.cons (dd_km (g3.ext (Ex.new nt))) (.cons (Dd.ext (Ex.new nt) _ _ g4) (.cons .non .nil)))))) okx fun H' e' => q H' ((Ex.new nt).trans e')⟩⟩
        rw [nR2] at t3
        refine s_when (b := false) (et_is (et_or (a := false) (b := false) (et_test t3) fun _ => et_test t4) rfl) (fun z => by cases z) fun _ H14 e14 => ?_
        exact ⟨(e39.trans e913).trans e14, _, _, _, _, _, _, _, _, _, _, _, _, _, rfl⟩
    · rintro σ' H4 ⟨e4, x4, x5, x6, x7, x8, x9, x10, x11, x12, x13, x14, x15, x16, rfl⟩
      have lv4 := lv3.ext e4
      have fin : EvD K (tCall (spRioA K CL C) [] noE (tCons (tVar 1) (tCons (tLst tNil) tNil))) ([some (.ref a), some (.ref J), some (.ref l), some (.ref R), x4, x5, x6, x7, x8, x9, x10, x11, x12, x13, x14, x15, x16] : L2.St) H4 (.list []) := fun H5 e5 Q q =>
        ⟨_, rfl, Nat.zero_le _, fun t nt => rio_nil (lv4.ext (e5.trans (Ex.new nt))) (sq_of upd_same) fun p H6 np e6 hp => q (.ref p) H6 ((Ex.new nt).trans e6) (.lst (sq_of hp) .nil)⟩
      have nil : EvD K (tLst tNil) ([some (.ref a), some (.ref J), some (.ref l), some (.ref R), x4, x5, x6, x7, x8, x9, x10, x11, x12, x13, x14, x15, x16] : L2.St) H4 (.list []) := fun H5 e5 Q q => ⟨Nat.zero_le _, fun t nt => q (.ref t) _ (Ex.new nt) (.lst (sq_of upd_same) .nil)⟩
      exact s_ret (v := .bl (PyData.eqv (.list []) (.list []))) (ed_eqD fin nil rfl rfl rfl rfl) fun H5 e5 => by
        rw [show PyData.eqv (.list []) (.list []) = true by decide +kernel]
        exact kQ H5
end
end K54
set_option maxHeartbeats 8000000
/-! the head's facts, gathered -/
namespace K54
open PySem PySem.Spec PyProof.Rows L2 Evl My LamX
structure HasDef (K : PySem.W.Frag) (x : Str) (st : Stmt) (f : Addr) : Prop where
  g : PySem.W.nsIn K mainGlobals x = some (some (.ref f))
  k : PySem.W.keepIn K (.ref f) = true
  F : ∃ fd, Fun K x x st f fd
theorem hasDef {K : PySem.W.Frag} {x : Str} {st : Stmt} {f : Addr} {oc : Value} {od an : Option Addr} {osl : Array (Option Value)} {kV doc pm cdv ct : Value}
    (g : PySem.W.nsIn K mainGlobals x = some (some (.ref f)))
    (lf : K.lookup f = some ⟨oc, od, .func (PySem.W.fnOf x x (defArgs st) (defBody st) (defScope st) .none kV doc pm an cdv ct), osl⟩) (cf : PySem.W.codeIn K cdv x = true) (kf : PySem.W.keepIn K (.ref f) = true) : HasDef K x st f :=
  ⟨g, kf, _, fun_mk lf cf kf⟩
/-- a method of the class at C -/
structure HasMeth (K : PySem.W.Frag) (C : Addr) (x qual : Str) (st : Stmt) (f : Addr) : Prop where
  a : PySem.W.findIn K (.ref C) x = some (some (.ref f))
  t : PySem.W.typeIn K (.ref f) = some (.type "function")
  F : ∃ fd, Fun K x qual st f fd
theorem hasMeth {K : PySem.W.Frag} {C : Addr} {x qual : Str} {st : Stmt} {f : Addr} {oc : Value} {od an : Option Addr} {osl : Array (Option Value)} {kV doc pm cdv ct : Value}
    (a : PySem.W.findIn K (.ref C) x = some (some (.ref f))) (t : PySem.W.typeIn K (.ref f) = some (.type "function"))
    (lf : K.lookup f = some ⟨oc, od, .func (PySem.W.fnOf x qual (defArgs st) (defBody st) (defScope st) .none kV doc pm an cdv ct), osl⟩) (cf : PySem.W.codeIn K cdv qual = true) (kf : PySem.W.keepIn K (.ref f) = true) : HasMeth K C x qual st f :=
  ⟨a, t, _, fun_mk lf cf kf⟩
theorem HasMeth.m {K : PySem.W.Frag} {C : Addr} {x qual : Str} {st : Stmt} {f : Addr} (h : HasMeth K C x qual st f) : Meth K C x f := by
  obtain ⟨fd, F⟩ := h.F
  exact ⟨h.a, (by unfold PySem.W.isFn; rw [h.t]; rfl), F.kp⟩
/-- __init__, its default an empty tuple -/
structure HasInit (K : PySem.W.Frag) (C f t : Addr) : Prop where
  a : PySem.W.findIn K (.ref C) "__init__" = some (some (.ref f))
  ty : PySem.W.typeIn K (.ref f) = some (.type "function")
  F : ∃ fd, FunD K "__init__" "Levels.__init__" (defArgs mInit) (defBody mInit) (defScope mInit) [.ref t] [] f fd
  e : ∀ H, SqT K H t []
theorem hasInit {K : PySem.W.Frag} {C f t D : Addr} {oc kc : Value} {od an kd td : Option Addr} {osl ksl tsl : Array (Option Value)} {kV doc pm cdv ct : Value} {n m : Nat}
    (a : PySem.W.findIn K (.ref C) "__init__" = some (some (.ref f))) (ty : PySem.W.typeIn K (.ref f) = some (.type "function"))
    (lf : K.lookup f = some ⟨oc, od, .func (PySem.W.fnOf "__init__" "Levels.__init__" (defArgs mInit) (defBody mInit) (defScope mInit) (.ref D) kV doc pm an cdv ct), osl⟩) (cf : PySem.W.codeIn K cdv "Levels.__init__" = true) (kf : PySem.W.keepIn K (.ref f) = true)
    (lD : K.lookup D = some ⟨kc, kd, .seq #[.ref t] n, ksl⟩) (lt : K.lookup t = some ⟨.type "tuple", td, .seq #[] m, tsl⟩) : HasInit K C f t :=
  ⟨a, ty, ⟨_, ⟨⟨oc, od, .ref D, kV, doc, pm, an, cdv, ct, osl, rfl, lf, cf, .inr ⟨by simp, D, _, [.ref t], n, rfl, lD, rfl, .cons rfl .nil⟩, .inl rfl⟩, kf⟩⟩, fun H => .inr ⟨_, #[], m, lt, rfl, rfl, Nat.zero_le _, .nil⟩⟩
section
variable {K : PySem.W.Frag} {f t : Addr} {fd : FuncData}
theorem init_b3 (F : FunD K "__init__" "Levels.__init__" (defArgs mInit) (defBody mInit) (defScope mInit) [.ref t] [] f fd) : Binds K fd ["self", "names", "pairs"] [] := by
  obtain ⟨ds, h, b⟩ := F.binds1 (ps := ["self", "names", "pairs"]) 3 1 (by simp) rfl fun T kV doc pm an cdv ct us its h1 h2 => match us, h1, its, h2 with
    | [a, b, c], _, [x], _ => ⟨_, rfl, rfl⟩
  cases h
  exact b
theorem init_b2 (F : FunD K "__init__" "Levels.__init__" (defArgs mInit) (defBody mInit) (defScope mInit) [.ref t] [] f fd) : Binds K fd ["self", "names", "pairs"] [.ref t] := by
  obtain ⟨ds, h, b⟩ := F.binds1 (ps := ["self", "names", "pairs"]) 2 0 (by simp) rfl fun T kV doc pm an cdv ct us its h1 h2 => match us, h1, its, h2 with
    | [a, b], _, [x], _ => ⟨_, rfl, rfl⟩
  cases h with
  | cons h1 h2 =>
    cases h2
    cases h1
    exact b
end
/-- the class Levels -/
def tyL : List String := ["NoneType", "bool", "int", "str", "list", "tuple", "dict"]
theorem tyD_in (d : PyData) : tyD d ∈ tyL := by
  cases d <;> simp [tyD, tyL]
def lvB (K : PySem.W.Frag) (C : Addr) : Bool :=
  PySem.W.plainGet K C Str.empty && PySem.W.hasDictIn K C && PySem.W.plainOver K C && (PySem.W.findIn K (.ref C) "__setattr__" == some (some (.builtin "object.__setattr__"))) &&
  (PySem.W.findIn K (.ref C) "order" == some none) && (PySem.W.findIn K (.ref C) "below" == some none) && PySem.W.makesIn K C && PySem.W.keepIn K (.ref C)
structure LvB (K : PySem.W.Frag) (C : Addr) : Prop where
  c : LvC K C
  m : PySem.W.makesIn K C = true
  k : PySem.W.keepIn K (.ref C) = true
theorem lvB_of {K : PySem.W.Frag} {C : Addr} (h : lvB K C = true) : LvB K C := by
  unfold lvB at h
  simp only [Bool.and_eq_true, beq_iff_eq] at h
  obtain ⟨⟨⟨⟨⟨⟨⟨h1, h2⟩, h3⟩, h4⟩, h5⟩, h6⟩, h7⟩, h8⟩ := h
  exact ⟨⟨⟨h1, h2, h3, h4⟩, h5, h6⟩, h7, h8⟩
/-- the class Record -/
def rcB (K : PySem.W.Frag) (C : Addr) : Bool :=
  PySem.W.plainGet K C Str.empty && PySem.W.hasDictIn K C && PySem.W.plainOver K C && (PySem.W.findIn K (.ref C) "__setattr__" == some (some (.builtin "object.__setattr__"))) &&
  (PySem.W.findIn K (.ref C) "mark" == some none) && (PySem.W.findIn K (.ref C) "stamp" == some none) && (PySem.W.findIn K (.ref C) "after" == some none) && (PySem.W.findIn K (.ref C) "act" == some none) && (PySem.W.findIn K (.ref C) "first" == some none) &&
  (PySem.W.findIn K (.ref C) "__class__" == some (some (.builtin "object.__class__"))) && (PySem.W.specialIn K (.builtin "object.__class__") "__get__" == some (some (.builtin "getset_descriptor.__get__"))) && (PySem.W.takesIn K (.builtin "object.__class__") == some true) && (PySem.W.mroIn K C (.type "object") == some true) &&
  (PySem.W.kitOne K (.ref C) (.ref C) == some true) && (tyL.all fun t => PySem.W.kitOne K (.type t) (.ref C) == some false) && (tyL.all fun t => PySem.W.notFirst K C (.type t)) && PySem.W.notFirst K C (.ref C) && PySem.W.makesIn K C && PySem.W.keepIn K (.ref C) &&
  (PySem.W.findIn K (.ref C) "__ne__" == some (some (.builtin "object.__ne__"))) && (PySem.W.subIn K (.ref C) (.type "object") == some true)
structure RcB (K : PySem.W.Frag) (C : Addr) : Prop where
  c : RcC K C
  i : LvI K C
  n : PySem.W.notFirst K C (.ref C) = true
  m : PySem.W.makesIn K C = true
  k : PySem.W.keepIn K (.ref C) = true
  ne : PySem.W.findIn K (.ref C) "__ne__" = some (some (.builtin "object.__ne__"))
  ob : PySem.W.subIn K (.ref C) (.type "object") = some true
theorem rcB_of {K : PySem.W.Frag} {C : Addr} (h : rcB K C = true) : RcB K C := by
  unfold rcB at h
  simp only [Bool.and_eq_true, beq_iff_eq, List.all_eq_true] at h
  obtain ⟨⟨⟨⟨⟨⟨⟨⟨⟨⟨⟨⟨⟨⟨⟨⟨⟨⟨⟨⟨h1, h2⟩, h3⟩, h4⟩, h5⟩, h6⟩, h7⟩, h8⟩, h9⟩, h10⟩, h11⟩, h12⟩, h13⟩, h14⟩, h15⟩, h16⟩, h17⟩, h18⟩, h19⟩, h20⟩, h21⟩ := h
  exact ⟨⟨⟨h1, h2, h3, h4⟩, h5, h6, h7, h8, h9⟩, ⟨h10, h11, h12, h13, h14, fun d => h15 _ (tyD_in d), fun d => h16 _ (tyD_in d)⟩, h17, h18, h19, h20, h21⟩
/-- an own class right under an own class right under ValueError -/
def errB (K : PySem.W.Frag) (C : Addr) : Bool :=
  (PySem.W.findIn K (.ref C) "__setattr__" == some (some (.builtin "object.__setattr__"))) && PySem.W.keepIn K (.ref C) && (PySem.W.subIn K (.ref C) (.type "BaseException") == some true) && (PySem.W.typeIn K (.ref C) == some (.type "type")) && (PySem.W.findIn K (.ref C) "value" == some none)
abbrev sInitE (i : Nat) : Stmt := match top i with
  | .ClassDef _ _ _ body .. => body.getD 0 (.Pass ⟨0, 0, 0, 0⟩)
  | _ => .Pass ⟨0, 0, 0, 0⟩
structure HasErr (K : PySem.W.Frag) (nm0 qual : Str) (st : Stmt) (C cM fI : Addr) : Prop where
  g : PySem.W.nsIn K mainGlobals nm0 = some (some (.ref C))
  l : ∃ nm q N bs sn sub ab col dd k0 k1 k2 k3 k5, K.lookup C = some (excClassObj nm q C N bs (.ref cM :: [.type "ValueError", .type "Exception", .type "BaseException", .type "object"]) true sn sub ab col dd k0 k1 k2 k3 k5 "ValueError.__new__")
  i : PySem.W.findIn K (.ref C) "__init__" = some (some (.ref fI))
  t : PySem.W.typeIn K (.ref fI) = some (.type "function")
  F : ∃ fd, Fun K "__init__" qual st fI fd
  b : errB K C = true
theorem hasErr {K : PySem.W.Frag} {nm0 qual : Str} {st : Stmt} {C cM fI : Addr} {nm q N bs sn sub ab col dd k0 k1 k2 k3 k5} {oc : Value} {od an : Option Addr} {osl : Array (Option Value)} {kV doc pm cdv ct : Value}
    (g : PySem.W.nsIn K mainGlobals nm0 = some (some (.ref C))) (l : K.lookup C = some (excClassObj nm q C N bs (.ref cM :: [.type "ValueError", .type "Exception", .type "BaseException", .type "object"]) true sn sub ab col dd k0 k1 k2 k3 k5 "ValueError.__new__"))
    (i : PySem.W.findIn K (.ref C) "__init__" = some (some (.ref fI))) (t : PySem.W.typeIn K (.ref fI) = some (.type "function"))
    (lf : K.lookup fI = some ⟨oc, od, .func (PySem.W.fnOf "__init__" qual (defArgs st) (defBody st) (defScope st) .none kV doc pm an cdv ct), osl⟩) (cf : PySem.W.codeIn K cdv qual = true) (kf : PySem.W.keepIn K (.ref fI) = true) (hb : errB K C = true) : HasErr K nm0 qual st C cM fI :=
  ⟨g, ⟨_, _, _, _, _, _, _, _, _, _, _, _, _, _, l⟩, i, t, ⟨_, fun_mk lf cf kf⟩, hb⟩
section
variable {P : Program} {w : World} {K : PySem.W.Frag} {mg : Str → Option Value} {base : Heap} {nm0 qual : Str} {st : Stmt} {C cM fI : Addr}
theorem HasErr.inv (h : HasErr K nm0 qual st C cM fI) (gC : mg nm0 = some (.ref C)) (S : FnScope ["self", "value"] ["self", "value"] (defScope st)) (hb : ∃ p1 p2 p3 p4, defBody st = [.Assign [.Attribute (.Name "self" p1) "value" p2] (.Name "value" p3) p4])
    (bi : ∀ {fd : FuncData}, Fun K "__init__" qual st fI fd → Binds K fd ["self", "value"] []) : InvE P w K mg base nm0 C := by
  obtain ⟨fd, F⟩ := h.F
  obtain ⟨nm, q, N, bs, sn, sub, ab, col, dd, k0, k1, k2, k3, k5, l⟩ := h.l
  have b := h.b
  unfold errB at b
  simp only [Bool.and_eq_true, beq_iff_eq] at b
  obtain ⟨⟨⟨⟨b1, b2⟩, b3⟩, b4⟩, b5⟩ := b
  have eg : ExG K C := ⟨⟨nm, q, N, bs, _, sn, sub, ab, col, dd, k0, k1, k2, k3, k5, "ValueError", "ValueError.__new__", _, _, l, PySem.F.excBase_ValueError, ⟨rfl, rfl, rfl⟩, mroValue.cons⟩, b1, b2⟩
  have ox : OexC K C := ⟨⟨nm, q, N, bs, _, sn, sub, ab, col, dd, k0, k1, k2, k3, k5, l, rfl⟩, b1, b3, b4, b2⟩
  exact ⟨⟨fI, fd, ox, h.i, h.t, ok_one F S hb (by decide +kernel) (by decide +kernel) eg b5, bi F⟩, gC⟩
end
section
variable {l : PySem.W.OpenLaw} {w : World} {K : PySem.W.Frag} {mg : Str → Option Value} {h : Heap} {fa CL C CA CB CR cM fA fB fR fI tI rI rE d0 d1 d2 d3 d4 d5 d6 d7 d8 d9 d10 d11 d12 d13 q0 q1 q2 q3 : Addr} {uL uW uM : Value}
theorem all_mk (X : K.In h) (G : h.Ns mainGlobals mg) (hfa : mg "law" = some (.ref fa))
    (E2 : HasErr K "InvalidLevels" "InvalidLevels.__init__" (sInitE 3) CA cM fA) (E3 : HasErr K "InvalidLevel" "InvalidLevel.__init__" (sInitE 4) CB cM fB) (E4 : HasErr K "BadRecords" "BadRecords.__init__" (sInitE 5) CR cM fR)
    (gC : PySem.W.nsIn K mainGlobals "Levels" = some (some (.ref CL))) (lb : lvB K CL = true) (gR : PySem.W.nsIn K mainGlobals "Record" = some (some (.ref C))) (rb : rcB K C = true)
    (iI : HasInit K CL fI tI) (hRI : HasMeth K C "__init__" "Record.__init__" rInit rI) (hRE : HasMeth K C "__eq__" "Record.__eq__" rEq rE)
    (h0 : HasMeth K CL "has" "Levels.has" mHas q0)
    (h1 : HasMeth K CL "names" "Levels.names" mNames q1)
    (h2 : HasMeth K CL "check" "Levels.check" mCheck q2)
    (h3 : HasMeth K CL "above" "Levels.above" mAbove q3)
    (e0 : HasDef K "is_word" sWord d0)
    (e1 : HasDef K "are_names" sNames d1)
    (e2 : HasDef K "is_pair" sPair d2)
    (e3 : HasDef K "are_pairs" sPairs d3)
    (e4 : HasDef K "levels_below" sBelow d4)
    (e5 : HasDef K "records_by_mark" sByMark d5)
    (e6 : HasDef K "follows_well" sFollows d6)
    (e7 : HasDef K "followers_in_order" sFio d7)
    (e8 : HasDef K "records_in_order" sRio d8)
    (e9 : HasDef K "_law_draws" sDraws d9)
    (e10 : HasDef K "_law_draw" sTake d10)
    (e11 : HasDef K "_law_rows" sRows d11)
    (e12 : HasDef K "_law_due" sDue d12)
    (e13 : HasDef K "law" sLaw d13)
    (z0 : PySem.W.nsIn K mainGlobals "len" = some none)
    (z1 : PySem.W.nsIn K mainGlobals "all" = some none)
    (z2 : PySem.W.nsIn K mainGlobals "isinstance" = some none)
    (z3 : PySem.W.nsIn K mainGlobals "str" = some none)
    (z4 : PySem.W.nsIn K mainGlobals "list" = some none)
    (z5 : PySem.W.nsIn K mainGlobals "tuple" = some none)
    (z6 : PySem.W.nsIn K mainGlobals "set" = some none)
    (z7 : PySem.W.nsIn K mainGlobals "range" = some none)
    (z8 : PySem.W.nsIn K mainGlobals "max" = some none)
    (z9 : PySem.W.nsIn K mainGlobals "min" = some none)
    (z10 : PySem.W.nsIn K mainGlobals "repr" = some none)
    (z11 : PySem.W.nsIn K mainGlobals "int" = some none)
    (z12 : PySem.W.nsIn K mainGlobals "sorted" = some none)
    (gL : PySem.W.nsIn K mainGlobals "LETTERS" = some (some uL)) (gW : PySem.W.nsIn K mainGlobals "LONGEST_WORD" = some (some uW)) (gS : PySem.W.nsIn K mainGlobals "MOST_LEVELS" = some (some uM))
    (rL : RelV (.str LET) uL) (rW : RelV (.int 8) uW) (rM : RelV (.int 8) uM) :
    ∃ fd : FuncData, (∀ (s : Shared) (u : Value), BindsTo s fd ⟨[u], []⟩ [("_law_script", u)]) ∧ ∀ base : Heap, K.In base → base.Ns mainGlobals mg → FnOk l.prog w K mg base CX0 7 fa fd ["_law_script"] (spLaw K) := by
  have e := hfa.symm.trans (PySem.W.mg_of X G e13.g)
  cases e
  have TX : Txt mg := ⟨PySem.W.mg_none_of X G z0, PySem.W.mg_none_of X G z1, PySem.W.mg_none_of X G z2, PySem.W.mg_none_of X G z3, PySem.W.mg_none_of X G z4, PySem.W.mg_none_of X G z5, PySem.W.mg_none_of X G z6, PySem.W.mg_none_of X G z7, PySem.W.mg_none_of X G z8, PySem.W.mg_none_of X G z9, PySem.W.mg_none_of X G z10, ⟨_, PySem.W.mg_of X G gL, rL⟩, ⟨_, PySem.W.mg_of X G gW, rW⟩, ⟨_, PySem.W.mg_of X G gS, rM⟩⟩
  have zI : mg "int" = none := PySem.W.mg_none_of X G z11
  have zS : mg "sorted" = none := PySem.W.mg_none_of X G z12
  have mC : mg "Levels" = some (.ref CL) := PySem.W.mg_of X G gC
  have mR : mg "Record" = some (.ref C) := PySem.W.mg_of X G gR
  have mA : mg "InvalidLevels" = some (.ref CA) := PySem.W.mg_of X G E2.g
  have mB : mg "InvalidLevel" = some (.ref CB) := PySem.W.mg_of X G E3.g
  have mD : mg "BadRecords" = some (.ref CR) := PySem.W.mg_of X G E4.g
  obtain ⟨cl, mkC, kpC⟩ := lvB_of lb
  obtain ⟨c, lvi, nR, mkR, kpR, neR, obR⟩ := rcB_of rb
  obtain ⟨g0, k0, fd0, F0⟩ := e0
  have b0 := F0.binds (ps := ["thing"]) fun _ _ _ _ _ _ us hl => match us, hl with | [_], _ => rfl
  have m0 := PySem.W.mg_of X G g0
  obtain ⟨g1, k1, fd1, F1⟩ := e1
  have b1 := F1.binds (ps := ["thing"]) fun _ _ _ _ _ _ us hl => match us, hl with | [_], _ => rfl
  have m1 := PySem.W.mg_of X G g1
  obtain ⟨g2, k2, fd2, F2⟩ := e2
  have b2 := F2.binds (ps := ["thing", "order"]) fun _ _ _ _ _ _ us hl => match us, hl with | [_, _], _ => rfl
  have m2 := PySem.W.mg_of X G g2
  obtain ⟨g3, k3, fd3, F3⟩ := e3
  have b3 := F3.binds (ps := ["thing", "order"]) fun _ _ _ _ _ _ us hl => match us, hl with | [_, _], _ => rfl
  have m3 := PySem.W.mg_of X G g3
  obtain ⟨g4, k4, fd4, F4⟩ := e4
  have b4 := F4.binds (ps := ["order", "pairs"]) fun _ _ _ _ _ _ us hl => match us, hl with | [_, _], _ => rfl
  have m4 := PySem.W.mg_of X G g4
  obtain ⟨g5, k5, fd5, F5⟩ := e5
  have b5 := F5.binds (ps := ["records"]) fun _ _ _ _ _ _ us hl => match us, hl with | [_], _ => rfl
  have m5 := PySem.W.mg_of X G g5
  obtain ⟨g6, k6, fd6, F6⟩ := e6
  have b6 := F6.binds (ps := ["levels", "record", "found"]) fun _ _ _ _ _ _ us hl => match us, hl with | [_, _, _], _ => rfl
  have m6 := PySem.W.mg_of X G g6
  obtain ⟨g7, k7, fd7, F7⟩ := e7
  have b7 := F7.binds (ps := ["levels", "records"]) fun _ _ _ _ _ _ us hl => match us, hl with | [_, _], _ => rfl
  have m7 := PySem.W.mg_of X G g7
  obtain ⟨g8, k8, fd8, F8⟩ := e8
  have b8 := F8.binds (ps := ["levels", "records"]) fun _ _ _ _ _ _ us hl => match us, hl with | [_, _], _ => rfl
  have m8 := PySem.W.mg_of X G g8
  obtain ⟨g9, k9, fd9, F9⟩ := e9
  have b9 := F9.binds (ps := ["_law_script", "_law_k"]) fun _ _ _ _ _ _ us hl => match us, hl with | [_, _], _ => rfl
  have m9 := PySem.W.mg_of X G g9
  obtain ⟨g10, k10, fd10, F10⟩ := e10
  have b10 := F10.binds (ps := ["_law_draws_here", "_law_upto"]) fun _ _ _ _ _ _ us hl => match us, hl with | [_, _], _ => rfl
  have m10 := PySem.W.mg_of X G g10
  obtain ⟨g11, k11, fd11, F11⟩ := e11
  have b11 := F11.binds (ps := []) fun _ _ _ _ _ _ us hl => match us, hl with | [], _ => rfl
  have m11 := PySem.W.mg_of X G g11
  obtain ⟨g12, k12, fd12, F12⟩ := e12
  have b12 := F12.binds (ps := []) fun _ _ _ _ _ _ us hl => match us, hl with | [], _ => rfl
  have m12 := PySem.W.mg_of X G g12
  obtain ⟨g13, k13, fd13, F13⟩ := e13
  have b13 := F13.binds (ps := ["_law_script"]) fun _ _ _ _ _ _ us hl => match us, hl with | [_], _ => rfl
  have m13 := PySem.W.mg_of X G g13
  have M0 := h0.m
  obtain ⟨a0, t0, gd0, G0⟩ := h0
  have B0 := G0.binds (ps := ["self", "thing"]) fun _ _ _ _ _ _ us hl => match us, hl with | [_, _], _ => rfl
  have M1 := h1.m
  obtain ⟨a1, t1, gd1, G1⟩ := h1
  have B1 := G1.binds (ps := ["self"]) fun _ _ _ _ _ _ us hl => match us, hl with | [_], _ => rfl
  have M2 := h2.m
  obtain ⟨a2, t2, gd2, G2⟩ := h2
  have B2 := G2.binds (ps := ["self", "level"]) fun _ _ _ _ _ _ us hl => match us, hl with | [_, _], _ => rfl
  have M3 := h3.m
  obtain ⟨a3, t3, gd3, G3⟩ := h3
  have B3 := G3.binds (ps := ["self", "one", "other"]) fun _ _ _ _ _ _ us hl => match us, hl with | [_, _, _], _ => rfl
  have RIm := hRI.m
  obtain ⟨aRI, tRI, fdRI, FRI⟩ := hRI
  have BRI := FRI.binds (ps := NR) fun _ _ _ _ _ _ us hl => match us, hl with | [_, _, _, _, _, _], _ => rfl
  have REm := hRE.m
  obtain ⟨aRE, tRE, fdRE, FRE⟩ := hRE
  have BRE := FRE.binds (ps := ["self", "other"]) fun _ _ _ _ _ _ us hl => match us, hl with | [_, _], _ => rfl
  refine ⟨fd13, fun s v => ?_, fun base IB NB => ?_⟩
  · obtain ⟨⟨oc, od, kV, doc, pm, an, cdv, ct, osl, rfl, _⟩, _⟩ := F13
    exact .of_eq (fd := PySem.W.fnOf "law" "law" (defArgs sLaw) (defBody sLaw) (defScope sLaw) .none kV doc pm an cdv ct) rfl
  have VA : InvE l.prog w K mg base "InvalidLevels" CA := E2.inv mA ⟨rfl, rfl, rfl, by decide +kernel, rfl, by decide +kernel, by decide +kernel⟩ ⟨_, _, _, _, rfl⟩ fun F => F.binds fun _ _ _ _ _ _ us hl => match us, hl with | [_, _], _ => rfl
  have VB : InvE l.prog w K mg base "InvalidLevel" CB := E3.inv mB ⟨rfl, rfl, rfl, by decide +kernel, rfl, by decide +kernel, by decide +kernel⟩ ⟨_, _, _, _, rfl⟩ fun F => F.binds fun _ _ _ _ _ _ us hl => match us, hl with | [_, _], _ => rfl
  have VR : InvE l.prog w K mg base "BadRecords" CR := E4.inv mD ⟨rfl, rfl, rfl, by decide +kernel, rfl, by decide +kernel, by decide +kernel⟩ ⟨_, _, _, _, rfl⟩ fun F => F.binds fun _ _ _ _ _ _ us hl => match us, hl with | [_, _], _ => rfl
  have WD : Df l.prog w K mg base "is_word" ["thing"] 1 (spB K wordD) := ⟨_, _, m0, k0, ok_word F0 TX, b0⟩
  have NM : Df l.prog w K mg base "are_names" ["thing"] 2 (spB K namesD) := ⟨_, _, m1, k1, ok_names F1 TX WD, b1⟩
  have PA2 : Df l.prog w K mg base "is_pair" ["thing", "order"] 2 (spPair K) := ⟨_, _, m2, k2, ok_pairD F2 TX WD, b2⟩
  have PR : Df l.prog w K mg base "are_pairs" ["thing", "order"] 3 (spPairs K) := ⟨_, _, m3, k3, ok_pairs F3 TX PA2, b3⟩
  have LB : Df l.prog w K mg base "levels_below" ["order", "pairs"] 1 (spBelow K) := ⟨_, _, m4, k4, ok_below F4, b4⟩
  have DRW : Df l.prog w K mg base "_law_draws" ["_law_script", "_law_k"] 1 (spPool K) := ⟨_, _, m9, k9, ok_draws F9 TX.len zI, b9⟩
  have TK : Df l.prog w K mg base "_law_draw" ["_law_draws_here", "_law_upto"] 1 spTake := ⟨_, _, m10, k10, ok_take F10 TX.len, b10⟩
  have ROW : Df l.prog w K mg base "_law_rows" [] 1 spRows := ⟨_, _, m11, k11, ok_rows F11, b11⟩
  have DUE : Df l.prog w K mg base "_law_due" [] 1 spDue := ⟨_, _, m12, k12, ok_due F12, b12⟩
  have HS : MD l.prog w K mg base CL "has" ["self", "thing"] 1 (spHas K CL) := ⟨_, _, M0, ok_has G0 TX cl, B0⟩
  have NL : MD l.prog w K mg base CL "names" ["self"] 1 (sp0L CL) := ⟨_, _, M1, ok_namL G1 TX cl, B1⟩
  have CH : MX l.prog w K mg base CL "check" ["self", "level"] 3 (sp1 K CL CB fun _ _ _ => .none) := ⟨_, _, M2, ok_check G2 cl VB HS, B2⟩
  have AB : MX l.prog w K mg base CL "above" ["self", "one", "other"] 4 (sp2 K CL CB aboveF) := ⟨_, _, M3, ok_above G3 cl CH, B3⟩
  obtain ⟨aI, tyI, ⟨fdI, FI⟩, eI⟩ := iI
  have LM : MkL l.prog w K mg base CL CA := ⟨⟨_, _, _, ⟨mkC, aI, (by unfold PySem.W.isFn; rw [tyI]; rfl), kpC⟩, ok_init FI TX cl VA NM PR LB, init_b3 FI, init_b2 FI, eI⟩, mC⟩
  have MR : MkR l.prog w K mg base C := ⟨⟨_, _, ⟨mkR, aRI, RIm.fn, kpR⟩, ok_rinit FRI c, BRI⟩, mR⟩
  have M : RqL l.prog w K mg base C := ⟨⟨_, _, aRE, REm.fn, ok_req FRE TX c lvi mR, BRE⟩, neR, obR, lvi, c, nR⟩
  have FW : Dx l.prog w K mg base "follows_well" ["levels", "record", "found"] 5 (spFol K CL C) := ⟨_, _, m6, k6, ok_fol F6 c cl AB, b6⟩
  have RIO : Dx l.prog w K mg base "records_in_order" ["levels", "records"] 6 (spRioA K CL C) := ⟨_, _, m8, k8, rioA fun rec => ok_rio F8 c cl VR ⟨_, _, m5, k5, ok_bymark F5 M VR, b5⟩ FW ⟨_, _, m7, k7, ok_fio F7 TX zS c cl NL, b7⟩, b8⟩
  exact ok_law F13 TX TX.rng c cl M LM MR DRW TK ROW DUE RIO
end
theorem walk {l : PySem.W.OpenLaw} {q : Program} {loose : List Str} {XP : (Str → Option Value) → Heap → Prop} {YP : World → Heap → Prop} {d : DefRec} {K : Params → PySem.W.Frag} (hn : l.most = some 63) (hdf : d.params.defaults = [])
    (hY : ∀ (w : World) (h : Heap), YP w h → (K w.params).In h)
    (F : ∀ (w : World) (mg : Str → Option Value) (fa : Addr) (h : Heap), (K w.params).In h → h.Ns mainGlobals mg → mg d.name = some (.ref fa) →
      ∃ fd : FuncData, (∀ (s : Shared) (u : Value), BindsTo s fd ⟨[u], []⟩ [("_law_script", u)]) ∧ ∀ base : Heap, (K w.params).In base → base.Ns mainGlobals mg → FnOk l.prog w (K w.params) mg base CX0 7 fa fd ["_law_script"] (spLaw (K w.params))) :
    PySem.W.WalkO q loose XP YP l.row.toRowW d [] (fun f vs => PySem.call f vs) :=
  L2.walk_ofK (n := 63) (k := 7) (x := "_law_script") (CX := CX0) (sp := spLaw) hn (by decide) hdf ⟨rfl, by decide, by decide⟩ hY F (fun K H a ns hl _ hS => ⟨a, ns, rfl, hS, hl, fun _ => rfl⟩) fun _ _ _ _ z => z.elim
end K54
open PySem PySem.W PyProof.Rows in
set_option maxRecDepth 100000 in
set_option maxHeartbeats 0 in
theorem PySem.Challenge.cw_maskededits_k54_records_in_order_holds : PySem.Challenge.rw_maskededits_k54_records_in_order.Holds := by
  w_on; o_law; k_head; (case hw => w_witness2)
  k_fill
  refine K54.walk (l := PySem.Challenge.rw_maskededits_k54_records_in_order) rfl rfl (fun w h Y => PySem.W.kIn_of Y) ?F
  case F =>
    intro w mg fa h KX G hmg
    refine' K54.all_mk KX G hmg (K54.hasErr ?g2 ?l2 ?i2 ?t2 ?lf2 ?cf2 ?kf2 ?hb2) (K54.hasErr ?g3 ?l3 ?i3 ?t3 ?lf3 ?cf3 ?kf3 ?hb3) (K54.hasErr ?g4 ?l4 ?i4 ?t4 ?lf4 ?cf4 ?kf4 ?hb4) ?gC ?lb ?gR ?rb ?iI ?hRI ?hRE ?h0 ?h1 ?h2 ?h3 ?e0 ?e1 ?e2 ?e3 ?e4 ?e5 ?e6 ?e7 ?e8 ?e9 ?e10 ?e11 ?e12 ?e13 ?z0 ?z1 ?z2 ?z3 ?z4 ?z5 ?z6 ?z7 ?z8 ?z9 ?z10 ?z11 ?z12 ?gL ?gW ?gS ?rL ?rW ?rM
    (case g2 => k_is)
    (case l2 => k_is)
    (case i2 => k_is)
    (case t2 => k_is)
    (case lf2 => k_is)
    (case cf2 => k_is)
    (case kf2 => k_is)
    (case g3 => k_is)
    (case l3 => k_is)
    (case i3 => k_is)
    (case t3 => k_is)
    (case lf3 => k_is)
    (case cf3 => k_is)
    (case kf3 => k_is)
    (case g4 => k_is)
    (case l4 => k_is)
    (case i4 => k_is)
    (case t4 => k_is)
    (case lf4 => k_is)
    (case cf4 => k_is)
    (case kf4 => k_is)
    (case hb2 => first | kernel_rfl | k_is)
    (case hb3 => first | kernel_rfl | k_is)
    (case hb4 => first | kernel_rfl | k_is)
    (case gC => k_is)
    (case gR => k_is)
    (case lb => first | kernel_rfl | k_is)
    (case rb => first | kernel_rfl | k_is)
    (case iI => refine' K54.hasInit ?a ?ty ?lf ?cf ?kf ?lD ?lt; (case a => k_is); (case ty => k_is); (case lf => k_is); (case cf => k_is); (case kf => k_is); (case lD => k_is); (case lt => k_is))
    (case hRI => refine' K54.hasMeth ?a ?t ?lf ?cf ?kf; (case a => k_is); (case t => k_is); (case lf => k_is); (case cf => k_is); (case kf => k_is))
    (case hRE => refine' K54.hasMeth ?a ?t ?lf ?cf ?kf; (case a => k_is); (case t => k_is); (case lf => k_is); (case cf => k_is); (case kf => k_is))
    (case h0 => refine' K54.hasMeth ?a ?t ?lf ?cf ?kf; (case a => k_is); (case t => k_is); (case lf => k_is); (case cf => k_is); (case kf => k_is))
    (case h1 => refine' K54.hasMeth ?a ?t ?lf ?cf ?kf; (case a => k_is); (case t => k_is); (case lf => k_is); (case cf => k_is); (case kf => k_is))
    (case h2 => refine' K54.hasMeth ?a ?t ?lf ?cf ?kf; (case a => k_is); (case t => k_is); (case lf => k_is); (case cf => k_is); (case kf => k_is))
    (case h3 => refine' K54.hasMeth ?a ?t ?lf ?cf ?kf; (case a => k_is); (case t => k_is); (case lf => k_is); (case cf => k_is); (case kf => k_is))
    (case e0 => refine' K54.hasDef ?g ?lf ?cf ?kf; (case g => k_is); (case lf => k_is); (case cf => k_is); (case kf => k_is))
    (case e1 => refine' K54.hasDef ?g ?lf ?cf ?kf; (case g => k_is); (case lf => k_is); (case cf => k_is); (case kf => k_is))
    (case e2 => refine' K54.hasDef ?g ?lf ?cf ?kf; (case g => k_is); (case lf => k_is); (case cf => k_is); (case kf => k_is))
    (case e3 => refine' K54.hasDef ?g ?lf ?cf ?kf; (case g => k_is); (case lf => k_is); (case cf => k_is); (case kf => k_is))
    (case e4 => refine' K54.hasDef ?g ?lf ?cf ?kf; (case g => k_is); (case lf => k_is); (case cf => k_is); (case kf => k_is))
    (case e5 => refine' K54.hasDef ?g ?lf ?cf ?kf; (case g => k_is); (case lf => k_is); (case cf => k_is); (case kf => k_is))
    (case e6 => refine' K54.hasDef ?g ?lf ?cf ?kf; (case g => k_is); (case lf => k_is); (case cf => k_is); (case kf => k_is))
    (case e7 => refine' K54.hasDef ?g ?lf ?cf ?kf; (case g => k_is); (case lf => k_is); (case cf => k_is); (case kf => k_is))
    (case e8 => refine' K54.hasDef ?g ?lf ?cf ?kf; (case g => k_is); (case lf => k_is); (case cf => k_is); (case kf => k_is))
    (case e9 => refine' K54.hasDef ?g ?lf ?cf ?kf; (case g => k_is); (case lf => k_is); (case cf => k_is); (case kf => k_is))
    (case e10 => refine' K54.hasDef ?g ?lf ?cf ?kf; (case g => k_is); (case lf => k_is); (case cf => k_is); (case kf => k_is))
    (case e11 => refine' K54.hasDef ?g ?lf ?cf ?kf; (case g => k_is); (case lf => k_is); (case cf => k_is); (case kf => k_is))
    (case e12 => refine' K54.hasDef ?g ?lf ?cf ?kf; (case g => k_is); (case lf => k_is); (case cf => k_is); (case kf => k_is))
    (case e13 => refine' K54.hasDef ?g ?lf ?cf ?kf; (case g => k_is); (case lf => k_is); (case cf => k_is); (case kf => k_is))
    (case z0 => k_is)
    (case z1 => k_is)
    (case z2 => k_is)
    (case z3 => k_is)
    (case z4 => k_is)
    (case z5 => k_is)
    (case z6 => k_is)
    (case z7 => k_is)
    (case z8 => k_is)
    (case z9 => k_is)
    (case z10 => k_is)
    (case z11 => k_is)
    (case z12 => k_is)
    (case gL => k_is)
    (case gW => k_is)
    (case gS => k_is)
    (case rL => exact ⟨_, rfl⟩)
    (case rW => exact ⟨_, rfl⟩)
    (case rM => exact ⟨_, rfl⟩)
