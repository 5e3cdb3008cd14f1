import PyProof.Rows.All
import Wide.All
import OpenK.AllK
import Wide.FinOn
import PyProof.EqAt
import PyProof.EqKinds
import PyProof.TupleCall
import HandS.Base
import HandS.Call
import HandS.List
import HandS.Comp
import HandS.Ends
import HandS.Words
import PyProof.ReprReads
import PyProof.ReprRoads
import HandS.Dict
import HandS.Exc
import HandS.ExcInit
import KE.KExcInit
import KE.KExcIs
import HandS.ExcValue
import HandS.MakeKwOnly
import HandS.IsInst
import HandS.ForMost
import HandS.Evl
import HandS.Iter
import HandS.Walk
import HandS.Text
import HandS.FStr
import HandS.Steps
import HandS.Codes
import HandS.EndTab
import HandS.SlotsOwn
import HandS.Property
import HandS.More
import KE.KEqNest
import KE.KRevSl
import HandS.Lambda
import HandS.Style
import HandS.WordsExc
import HandS.StrMore
import PySem.Challenge.RW_maskededits_k70_read_simple_statements
import PyProof.StrLawsFrom
import HandS.RaiseMore
import HandS.Star
import HandS.ClsMeth
import KE.KCallOwn
import HandS.GenList
import HandS.GenYield
import KE.IntTextText
import HandS.Wide
import KE.KNestM
import HandS.HeadHook3
import KE.KLam
set_option Elab.async false
set_option linter.all false
set_option maxRecDepth 100000
set_option maxHeartbeats 4000000
/-! a def's promise for calls under which no guarded builtin runs; repr of data -/
namespace My
open PySem PySem.Spec PyProof.Rows L2

/-- as FnOk, asked only where no guard runs below -/
structure FnG (P : Program) (w : World) (K : PySem.W.Frag) (mg : Str → Option Value) (base : Heap) (CX : CXT) (k : Nat) (f : Addr) (fd : FuncData)
    (ps : List Str) (sp : Sp) : Prop where
  len : ∀ vs H Q E, sp vs H Q E → vs.length = ps.length
  run : ∀ (A : Around) (outer : List Env) (s : Shared) (H : Hp) (args : Args) (us : List Value) (vs : List V) (Q : VK) (E : XK),
    A.guards = some [] → Room k A → Env0 P w K mg base A outer s H → BindsTo s fd args (ps.zip us) → Vals vs us → sp vs H Q E →
    codeAny (model P w) A (.call (.ref f) args) (CR CX outer P w H s Q E) s

section
variable {P : Program} {w : World} {K : PySem.W.Frag} {mg : Str → Option Value} {base : Heap} {CX : CXT} {k : Nat} {f : Addr} {fd : FuncData}
  {ps : List Str} {sp : Sp}
theorem FnG.of (F : FnOk P w K mg base CX k f fd ps sp) : FnG P w K mg base CX k f fd ps sp :=
  ⟨F.len, fun A outer s H args us vs Q E _ hr e0 hb r hs => F.run A outer s H args us vs Q E hr e0 hb r hs⟩

/-- by the body, its guards known -/
theorem FnG.byBody {x qual : Str} {st : Stmt} {N : List Str} (F : Fun K x qual st f fd) (S : FnScope N ps (defScope st))
    (len : ∀ vs H Q E, sp vs H Q E → vs.length = ps.length)
    (body : ∀ (cdv : Value) (A : Around) (outer : List Env) (s : Shared) (H : Hp) (vs : List V) (Q : VK) (E : XK),
      A.guards = some [] → Room k (A.deeper (envOfC qual (defScope st) s.heap.objs.size f cdv)) → sp vs H Q E →
      ∃ t, PSs (cxOf CX P w K mg base N qual (defScope st) f cdv A outer s H E) (defBody st) t ∧
        t { nx := fun _ H' => Q .non H', rt := Q } (start N vs) H) :
    FnG P w K mg base CX (k + 1) f fd ps sp := by
  obtain ⟨oc, od, kV, doc, pm, an, cdv, ct, osl, rfl, lk, code⟩ := F.ex
  refine ⟨len, fun A outer s H args us vs Q E hg hr e0 hb r hsp => ?_⟩
  have inK : K.In s.heap := e0.mod.kin.keeps fun b o e => (e0.bs b o e).1
  have free : s.heap.NoLimit := e0.mod.nolimit.keeps fun b o e => (e0.bs b o e).1
  refine codeAny_call_function hr.depth (inK _ _ lk) rfl S.co S.gen rfl
    (PySem.W.codeRec_of inK code) (hb _ _ _ _ ?_)
  have kinds : ∀ y ∈ ps.zip us, (defScope st).names.lookup y.1 = some .local ∨
      ((defScope st).names.lookup y.1 = some .cell ∧ ((cellsFrom (s.heap.objs.size + 1) (defScope st).names []).lookup y.1).isSome = true) := by
    rintro ⟨n, v⟩ hy
    cases S.par n (List.of_mem_zip hy).1 with
    | inl q => exact Or.inl q
    | inr q => exact Or.inr ⟨q, PySem.W.cellsFrom_some _ _ _ (Or.inl q)⟩
  refine wpAny_newFunctionEnv_cells S.kind kinds fun env he s1 x => ?_
  subst he
  refine ⟨free.keeps x.toInCall.keep, codeAny_func ?_⟩
  obtain ⟨t, ht, hq⟩ := body cdv A outer s H vs Q E hg (hr.deeper _) hsp
  have I0 : Inv (cxOf CX P w K mg base N qual (defScope st) f cdv A outer s H E) [] (start N vs) H s1 :=
    inv_start S hr.hd e0 (len _ _ _ _ hsp) r x
  refine wpAny_mono (ht.run [] s1 (start N vs) H _ I0 hq) (fun fl s' hs => ?_) fun e s' hs => hs
  match fl, hs with
  | .ret u, hs =>
    obtain ⟨v, σ', H', J, rv, q⟩ := hs
    exact ⟨v, H', J.os, J.bare, J.base, J.hok, rv, q⟩
  | .next, hs =>
    obtain ⟨σ', H', J, q⟩ := hs
    exact ⟨V.non, H', J.os, J.bare, J.base, J.hok, rfl, q⟩
  | .brk, hs =>
    obtain ⟨_, _, _, q⟩ := hs
    exact False.elim q
  | .cont, hs =>
    obtain ⟨_, _, _, q⟩ := hs
    exact False.elim q
end

/-! ### the law's own call, no guard below -/
/-- the script, if it is no object of the written part -/
def onlyScript (K : PySem.W.Frag) (a : Addr) (o : Obj) (xs : List V) : Hp := fun b =>
  if b = a ∧ (K.lookup a).isNone = true then some (.frz o (.lst xs)) else none
theorem onlyScript_at {K : PySem.W.Frag} {a b : Addr} {o : Obj} {xs : List V} {u : HO} (h : onlyScript K a o xs b = some u) :
    b = a ∧ K.lookup a = none ∧ u = .frz o (.lst xs) := by
  unfold onlyScript at h
  split at h
  · next q => exact ⟨q.1, Option.isNone_iff_eq_none.mp q.2, (Option.some.inj h).symm⟩
  · cases h
theorem onlyScript_only {K : PySem.W.Frag} {a : Addr} {o : Obj} {xs : List V} : Only (onlyScript K a o xs) := fun b => by
  cases e : onlyScript K a o xs b with
  | none => exact Or.inl rfl
  | some u =>
    obtain ⟨_, _, rfl⟩ := onlyScript_at e
    exact Or.inr ⟨_, _, rfl⟩

theorem lawCall {P : Program} {w : World} {K : PySem.W.Frag} {mg mb : Str → Option Value} {k : Nat} {fa a : Addr} {fd : FuncData} {x : Str} {sp : Sp}
    {s₁ : Shared} {vs : List Value} {ns : List Int}
    (inK : K.In s₁.heap) (glob : s₁.heap.Ns mainGlobals mg) (blt : s₁.heap.Ns builtinsNs mb) (bltIs : ∀ x : Str, x ≠ "__name__" → mb x = bootBuiltins x)
    (free : s₁.heap.NoLimit) (gens : s₁.gens = #[]) (ha : s₁.heap.get? a = some { cls := .type "list", data := .seq vs.toArray }) (areInts : IntsAre vs ns)
    (len : ns.length ≤ sizeLine) (room : Room k callerA)
    (F : ∀ base : Heap, K.In base → base.Ns mainGlobals mg → FnG P w K mg base CX0 k fa fd [x] sp)
    (binds : ∀ (s : Shared) (u : Value), BindsTo s fd ⟨[u], []⟩ [(x, u)])
    (promise : ∀ H : Hp, Only H → SqL K H a (ns.map V.int) → sp [.ref a] H (fun v _ => v = .bl true) fun _ _ _ => False) :
    codeAny (model P w) callerA (.call (.ref fa) ⟨[.ref a], []⟩)
      (fun r s' => r = .ok (.ret (.bool true)) ∧ OldK s₁.heap s'.heap ∧ s'.os = s₁.os ∧ AllBare s'.gens) s₁ := by
  have rv := vals_ints areInts
  have lenV := areInts.length
  let ob : Obj := { cls := .type "list", data := .seq vs.toArray }
  let H := onlyScript K a ob (ns.map V.int)
  have objOk : ObjOk P w H s₁.heap a (.frz ob (.lst (ns.map V.int))) :=
    ⟨ha, by rw [List.length_map]; exact len, vs, _, rv, ha⟩
  have hok : HOk P w H s₁.heap := fun b u e => by
    obtain ⟨rfl, _, rfl⟩ := onlyScript_at e
    exact objOk
  have hS : SqL K H a (ns.map V.int) := by
    cases e : K.lookup a with
    | none => exact Or.inl (Or.inr ⟨ob, if_pos ⟨rfl, by rw [e]; rfl⟩⟩)
    | some o =>
      have q := inK a o e
      rw [ha] at q
      cases q
      exact Or.inr ⟨_, vs.toArray, _, e, rfl, rfl, rfl, by rw [List.size_toArray, lenV]; exact len, by simpa using rv⟩
  have freeAt : ∀ {b : Addr} {o : Obj}, s₁.heap.get? b = some o → (b = a → False) → H b = none := fun {b o} _ n => by
    cases e : H b with
    | none => rfl
    | some u => exact (n (onlyScript_at e).1).elim
  have under : ∀ {b : Addr} {o : Obj}, s₁.heap.get? b = some o → H b = none → (hidT s₁.heap H).get? b = some o := fun e n => hidT_get e n
  have maps : ∀ {b : Addr} {m : Str → Option Value}, s₁.heap.Ns b m → (hidT s₁.heap H).Ns b m := by
    rintro b m ⟨o, es, ep, e, d, r⟩
    refine ⟨o, es, ep, under e (freeAt e ?_), d, r⟩
    rintro rfl
    rw [ha] at e
    cases e
    cases d
  have inBase : K.In (hidT s₁.heap H) := fun b o e => under (inK b o e) (by
    cases q : H b with
    | none => rfl
    | some u =>
      obtain ⟨rfl, z, _⟩ := onlyScript_at q
      rw [z] at e
      cases e)
  have md : Mod K mg (hidT s₁.heap H) := by
    obtain ⟨mc, q1, q2⟩ := free
    exact ⟨inBase, maps glob, ⟨mb, maps blt, bltIs⟩, ⟨mc, maps q1, q2⟩⟩
  have nil : ∀ b : Addr, b ∈ frs [] → False := fun b z => by
    have z' : b ∈ ([] : List Addr) := z
    cases z'
  have e0 : Env0 P w K mg (hidT s₁.heap H) callerA [] s₁ H :=
    ⟨rfl, md, fun b o e => of_hidT e, Nat.le_of_eq (hidT_size _ _), trivial, fun b hb => (nil b hb).elim, hok, .of_eq gens⟩
  have run := (F _ inBase (maps glob)).run callerA [] s₁ H ⟨[.ref a], []⟩ [.ref a] [.ref a] _ _ rfl room e0 (binds s₁ (.ref a)) (.cons rfl .nil)
    (promise H onlyScript_only hS)
  refine codeAny_mono run fun r s' h => ?_
  match r, h with
  | .error e, h => exact False.elim h
  | .ok (.ret u), h =>
    obtain ⟨v, H', os, bare, un, hok', r', q⟩ := h
    obtain rfl : v = .bl true := q
    obtain rfl : u = Value.bool true := r'
    refine ⟨rfl, OldK.of_keep fun b o e => ?_, os, bare⟩
    cases q : H b with
    | none => exact un.keep b o e q (fun z => nil b z) (by simp)
    | some u =>
      obtain ⟨rfl, _, rfl⟩ := onlyScript_at q
      have q2 := un.frzs _ _ _ q
      obtain ⟨e2, _⟩ := hok' _ _ q2
      rw [ha] at e
      cases e
      exact e2
  | .ok .next, h => exact False.elim h
  | .ok .brk, h => exact False.elim h
  | .ok .cont, h => exact False.elim h

/-- what the head leaves to the law's promise -/
theorem walkG {l : PySem.W.OpenLaw} {n k : Nat} {q : Program} {loose : List Str} {XP : (Str → Option Value) → Heap → Prop} {YP : World → Heap → Prop}
    {d : DefRec} {K : Params → PySem.W.Frag} {sp : World → Sp} {x : Str}
    (most : l.most = some n) (small : n ≤ sizeLine) (hdf : d.params.defaults = []) (room : Room k callerA)
    (hY : ∀ (w : World) (h : Heap), YP w h → (K w.params).In h)
    (F : ∀ (w : World) (mg : Str → Option Value) (fa : Addr) (h : Heap), (K w.params).In h → h.Ns mainGlobals mg → mg d.name = some (.ref fa) →
      ∃ fd : FuncData, (∀ (s : Shared) (u : Value), BindsTo s fd ⟨[u], []⟩ [(x, u)]) ∧
        ∀ base : Heap, (K w.params).In base → base.Ns mainGlobals mg → FnG l.prog w (K w.params) mg base CX0 k fa fd [x] (sp w))
    (promise : ∀ (w : World) (H : Hp) (a : Addr) (ns : List Int), ns.length ≤ n → Only H → SqL (K w.params) H a (ns.map V.int) →
      sp w [.ref a] H (fun v _ => v = .bl true) fun _ _ _ => False) :
    PySem.W.WalkO q loose XP YP l.row.toRowW d [] (fun f vs => PySem.call f vs) := by
  refine Att.attach_call most hdf fun w s₀ s₁ mg mb fa o pm cd doc a vs ns G Y ho hd hcd hmg hobj hints hlen hg => ?_
  have inK := hY w _ Y
  obtain ⟨fd, binds, hF⟩ := F w mg fa _ inK G.T.g hmg
  exact lawCall inK G.T.g G.T.b G.T.builtins G.T.nolimit hg hobj hints (Nat.le_trans hlen small) room hF binds
    fun H hO hS => promise w H a ns hlen hO hS
end My
set_option maxHeartbeats 4000000
/-! values that stand for data, and what repr makes of them -/
namespace My
open PySem PySem.Spec PyProof.Rows L2

mutual
/-- v stands for the datum d: an empty dict may be among it -/
inductive Dd (K : PySem.W.Frag) (H : Hp) : V → PyData → Prop
  | non : Dd K H .non .none
  | bl (b : Bool) : Dd K H (.bl b) (.bool b)
  | int (i : Int) : Dd K H (.int i) (.int i)
  | str (x : Str) : Dd K H (.str x) (.str x)
  | lst {a : Addr} {xs : List V} {ds : List PyData} : SqL K H a xs → Dds K H xs ds → Dd K H (.ref a) (.list ds)
  | tup {a : Addr} {xs : List V} {ds : List PyData} : SqT K H a xs → Dds K H xs ds → Dd K H (.ref a) (.tuple ds)
  | dct {a : Addr} : H a = some (.dK []) → Dd K H (.ref a) (.dict [])
inductive Dds (K : PySem.W.Frag) (H : Hp) : List V → List PyData → Prop
  | nil : Dds K H [] []
  | cons {v : V} {vs : List V} {d : PyData} {ds : List PyData} : Dd K H v d → Dds K H vs ds → Dds K H (v :: vs) (d :: ds)
end

/-! it stands as long as the tracked objects do -/
mutual
theorem Dd.ext {K : PySem.W.Frag} {H H' : Hp} (e : ∀ b o, H b = some o → H' b = some o) : ∀ (d : PyData) (v : V), Dd K H v d → Dd K H' v d
  | .none, _, h => by cases h; exact .non
  | .bool b, _, h => by cases h; exact .bl b
  | .int i, _, h => by cases h; exact .int i
  | .str x, _, h => by cases h; exact .str x
  | .list ds, _, h => by
    cases h with
    | lst hs ha => exact .lst (Same.seq e hs) (Dds.ext e ds _ ha)
  | .tuple ds, _, h => by
    cases h with
    | tup hs ha =>
      refine .tup ?_ (Dds.ext e ds _ ha)
      rcases hs with (h | ⟨o, h⟩) | h
      · exact .inl (.inl (e _ _ h))
      · exact .inl (.inr ⟨o, e _ _ h⟩)
      · exact .inr h
  | .dict kvs, _, h => by
    cases h with
    | dct h => exact .dct (e _ _ h)
theorem Dds.ext {K : PySem.W.Frag} {H H' : Hp} (e : ∀ b o, H b = some o → H' b = some o) : ∀ (ds : List PyData) (vs : List V), Dds K H vs ds → Dds K H' vs ds
  | [], _, h => by cases h; exact .nil
  | d :: ds, _, h => by
    cases h with
    | cons h1 h2 => exact .cons (Dd.ext e d _ h1) (Dds.ext e ds _ h2)
end

section
variable {X : Cx} {pins : List (Addr × Obj)} {σ : L2.St} {H : Hp} {s : Shared}
mutual
theorem Dd.reads (I : Inv X pins σ H s) : ∀ (d : PyData) (v : V) (u : Value), Dd X.K H v d → RelV v u →
    ∃ as, Reads s.heap u d as ∧ (d = .dict [] → sysModules ∉ as)
  | .none, _, _, h, r => by
    cases h
    cases r
    exact ⟨_, Reads.none, by simp⟩
  | .bool b, _, _, h, r => by
    cases h
    cases r
    exact ⟨_, Reads.bool b, by simp⟩
  | .int i, _, _, h, r => by
    cases h
    obtain ⟨t, rfl⟩ := r
    exact ⟨_, Reads.int i t, by simp⟩
  | .str x, _, _, h, r => by
    cases h
    obtain ⟨t, rfl⟩ := r
    exact ⟨_, Reads.str x t, by simp⟩
  | .list ds, _, _, h, r => by
    cases h with
    | lst hs ha =>
      cases r
      obtain ⟨its, rv, ⟨o, m, ho, hc, _, hd⟩, _⟩ := I.list hs
      obtain ⟨as, hr⟩ := Dds.reads I ds _ its ha rv
      exact ⟨_, Reads.list ho hc hd hr, fun z => by cases z⟩
  | .tuple ds, _, _, h, r => by
    cases h with
    | tup hs ha =>
      cases r
      obtain ⟨its, rv, ⟨o, ho, hc, n, hd⟩, _⟩ := I.tuple hs
      obtain ⟨as, hr⟩ := Dds.reads I ds _ its ha rv
      exact ⟨_, Reads.tuple ho hc hd hr, fun z => by cases z⟩
  | .dict kvs, _, _, h, r => by
    cases h with
    | @dct a h =>
      cases r
      obtain ⟨z, hne, vs, rel, dd⟩ := dk_of I.hok h
      cases rel
      obtain ⟨o, es, ep, ho, hx, hd, _, hes, _⟩ := dd
      have e0 : es.toList = [] := by
        cases q : es.toList with
        | nil => rfl
        | cons e r =>
          rw [q] at hes
          cases hes
      refine ⟨_, Reads.dict (kvs := []) ho hx.1 hd (by rw [e0]; exact .nil) (by rw [e0]; exact .nil), fun _ hm => ?_⟩
      have e1 : sysModules = a := by simpa using hm
      rw [e1] at hne
      simp at hne
theorem Dds.reads (I : Inv X pins σ H s) : ∀ (ds : List PyData) (vs : List V) (us : List Value), Dds X.K H vs ds → Vals vs us →
    ∃ as, ReadsAll s.heap us ds as
  | [], _, _, h, r => by
    cases h
    cases r
    exact ⟨_, ReadsAll.nil⟩
  | d :: ds, _, _, h, r => by
    cases h with
    | cons h1 h2 =>
      cases r with
      | cons r1 r2 =>
        obtain ⟨as, q1, _⟩ := Dd.reads I d _ _ h1 r1
        obtain ⟨bs, q2⟩ := Dds.reads I ds _ _ h2 r2
        exact ⟨_, ReadsAll.cons q1 q2⟩
end
mutual
theorem Dp.plain {K : PySem.W.Frag} {H : Hp} : ∀ (d : PyData) (v : V), Dp K H v d → d.hasDict = false
  | .none, _, _ => by simp only [PyData.hasDict]
  | .bool _, _, _ => by simp only [PyData.hasDict]
  | .int _, _, _ => by simp only [PyData.hasDict]
  | .str _, _, _ => by simp only [PyData.hasDict]
  | .list ds, _, h => by
    cases h with
    | lst hs ha =>
      simp only [PyData.hasDict]
      exact DpAll.plain ds _ ha
  | .tuple ds, _, h => by
    cases h with
    | tup hs ha =>
      simp only [PyData.hasDict]
      exact DpAll.plain ds _ ha
  | .dict _, _, h => by cases h
theorem DpAll.plain {K : PySem.W.Frag} {H : Hp} : ∀ (ds : List PyData) (vs : List V), DpAll K H vs ds → PyData.hasDictAll ds = false
  | [], _, _ => by simp only [PyData.hasDictAll]
  | d :: ds, _, h => by
    cases h with
    | cons h1 h2 => simp only [PyData.hasDictAll, Dp.plain d _ h1, DpAll.plain ds _ h2, Bool.or_self]
end
/-- what repr of a value asks: that it stands for a datum, without dicts or with -/
def rRepr (K : PySem.W.Frag) : List V → Hp → VK → Prop := fun xs H Q => ∃ v d, xs = [v] ∧ (Dp K H v d ∨ Dd K H v d ∧ (d.hasDict = false ∨ d = .dict [])) ∧
  d.showable = true ∧ d.shown.length ≤ sizeLine ∧ d.depth ≤ 64 ∧ Q (.str d.shown) H
theorem call_reprU (hg : X.A.guards = some []) (un : X.A.units + 200 < cLine) : CallR X (.builtin "repr") (rRepr X.K) := by
  intro pins s σ H xs us Q I r h
  obtain ⟨v, d, rfl, hd, sh, sz, dp, q⟩ := h
  obtain ⟨u, rfl, ru⟩ := vals1 r
  have rd : ∃ as, Reads s.heap u d as ∧ (d.hasDict = true → sysModules ∉ as) := by
    rcases hd with hd | hd
    · obtain ⟨as, q⟩ := Dp.reads I d v u hd ru
      exact ⟨as, q, fun z => by rw [Dp.plain d v hd] at z; cases z⟩
    · obtain ⟨as, q, n⟩ := Dd.reads I d v u hd.1 ru
      exact ⟨as, q, fun z => n (hd.2.resolve_left fun z2 => by rw [z2] at z; cases z)⟩
  obtain ⟨as, rd, nd⟩ := rd
  have base : ∀ {x : Str} {t' : Nat} {tk : Tok}, x = d.shown → EP X pins σ Q (.str x tk) { s with toks := t' } := fun {x t' tk} e => by
    subst e
    exact ⟨.str _, H, I.tok _, ⟨tk, rfl⟩, q⟩
  cases rd with
  | none => exact PySem.P.repr_of_none (base (by simp only [PyData.shown]))
  | bool b => exact PySem.P.repr_of_bool (base (by simp only [PyData.shown]))
  | int i t => exact PySem.P.repr_of_int (by simpa [PyData.showable] using sh) (base (by simp only [PyData.shown]))
  | str x t => exact PySem.P.repr_of_str (base (by simp only [PyData.shown])) (by simpa only [PyData.shown] using sz)
  | list h1 h2 h3 h4 =>
    exact repr_of_reads' (.list h1 h2 h3 h4) sh nd hg (by omega) (fun _ _ z => z)
      (fun h' u tk hk => ⟨.str _, H, I.kept (t' := tk) hk, ⟨u, rfl⟩, q⟩) sz
  | tuple h1 h2 h3 h4 =>
    exact repr_of_reads' (.tuple h1 h2 h3 h4) sh nd hg (by omega) (fun _ _ z => z)
      (fun h' u tk hk => ⟨.str _, H, I.kept (t' := tk) hk, ⟨u, rfl⟩, q⟩) sz
  | dict h1 h2 h3 h4 h5 =>
    exact repr_of_reads' (.dict h1 h2 h3 h4 h5) sh nd hg (by omega) (fun _ _ z => z)
      (fun h' u tk hk => ⟨.str _, H, I.kept (t' := tk) hk, ⟨u, rfl⟩, q⟩) sz

theorem call_repr {k : Nat} (hg : X.A.guards = some []) (hr : Room k X.A) : CallR X (.builtin "repr") (rRepr X.K) := call_reprU hg (by have := hr.un; omega)

/-- a written list, its address not that of sys.modules -/
def tLstB (t : TA) : TE := fun σ H Q => t σ H fun xs H1 => xs.length ≤ sizeLine ∧ ∀ p, H1 p = none → p ≠ sysModules → Q (.ref p) (upd H1 p (.lst xs))
theorem pe_lstB {es : List Expr} {t : TA} {pos : Pos} (h : PA X es t) : PE X (.List es pos) (tLstB t) := by
  refine ⟨fun pins s σ H Q I hq => ?_⟩
  refine wpAny_List_spliced (thn (h.run pos pins s σ H _ I hq) ?_)
  rintro us s1 ⟨xs, H1, I1, r, z, q⟩
  have new : H1 s1.heap.objs.size = none := I1.hok.fresh (Nat.le_refl _)
  refine ⟨by rw [← r.length]; exact z, .ref s1.heap.objs.size, upd H1 s1.heap.objs.size (.lst xs), ?_, rfl, q _ new (Nat.ne_of_gt I1.big)⟩
  exact I1.laid (t' := s1.toks) (fun b u e => Heap.get?_push_of_some _ e) (Nat.le_refl _) ⟨z, us, 0, r, Heap.get?_push_size _ rfl⟩
end
end My
set_option maxHeartbeats 4000000
/-! own exceptions over any built-in base, made by place or by name, kept as values -/
namespace My
open PySem PySem.W PySem.Calls PyProof.Rows PySem.HandSPX

section
variable {M : Model} {A : Around} {E : Value → Shared → Prop} {h : Heap} {g : Array GenState} {d : Drawn} {t : Nat} {os : OsState}
variable {nm q : Str} {C N : Addr} {bs bm bmB : List Value} {hdct : Bool} {sn : List Str} {sub : List Value} {ab : Bool} {col : Option Bool} {dd : Option Addr}
  {k0 k1 k2 k3 k5 : Option Value} {B newId initId : String} {rest : List Value} {kw : List (Str × Value)}

/-- the mro behind the own class: it has the base that makes, and is no AttributeError, no NameError -/
structure Makes (bm : List Value) (B : String) : Prop where
  base : bm.contains (.type B) = true
  noAttr : bm.contains (.type "AttributeError") = false
  noName : bm.contains (.type "NameError") = false

theorem checkNew (F : ExcBaseFacts B newId initId bmB) (m : Makes bm B) {Q : Unit → Shared → Prop}
    (hC : h.get? C = some (excClassObj nm q C N bs bm hdct sn sub ab col dd k0 k1 k2 k3 k5 newId)) (hq : Q () ⟨h, g, d, t, os⟩) :
    wpAny M A (checkBuiltinCall newId ⟨.ref C :: rest, kw⟩) Q E ⟨h, g, d, t, os⟩ := by
  have has : (Value.ref C :: bm).contains (.type B) = true := by rw [List.contains_cons, m.base, Bool.or_true]
  have star := F.noStar
  simp only [checkBuiltinCall, F.newKind, F.newSplit, F.newRow]
  repeat (first
    | refine wpAny_loadPart_at hC ?_
    | (refine wpAny_isSubtype_exc hC ?_; rw [has])
    | refine wpAny_staticBase_exc hC ?_
    | refine wpAny_madeBy_exc hC ?_
    | simp only [bne_self_eq_false, Bool.false_eq_true, if_false]
    | wp_step)
  exact hq
end

section
variable {prog : Program} {w : World} {A : Around} {E : Value → Shared → Prop} {R : Result → Shared → Prop} {h : Heap} {g : Array GenState} {d : Drawn} {t : Nat} {os : OsState}
variable {nm q : Str} {C N fI : Addr} {bs bm bmB : List Value} {hdct : Bool} {sn : List Str} {sub : List Value} {ab : Bool} {col : Option Bool} {dd : Option Addr}
  {k0 k1 k2 k3 k5 : Option Value} {B newId initId : String} {rest : List Value} {kw : List (Str × Value)}

/-- the bare exception, its arguments laid before it -/
def bare2 (h : Heap) (C : Addr) (rest : List Value) : Heap := (h.push (kdv_tup rest)).push (excO C h.objs.size)
theorem bare2_keeps {b : Addr} {o : Obj} (e : h.get? b = some o) : (bare2 h C rest).get? b = some o :=
  Heap.get?_push_of_some _ (Heap.get?_push_of_some _ e)
theorem bare2_at : (bare2 h C rest).get? (h.objs.size + 1) = some (excO C h.objs.size) := by
  unfold bare2
  heap_get

theorem newOwn (F : ExcBaseFacts B newId initId bmB) (m : Makes bm B) (small : rest.length ≤ sizeLine)
    (hC : h.get? C = some (excClassObj nm q C N bs bm hdct sn sub ab col dd k0 k1 k2 k3 k5 newId))
    (hq : R (.ok (.ret (.ref (h.objs.size + 1)))) ⟨bare2 h C rest, g, d, t, os⟩) :
    codeAny (model prog w) A (.builtin newId ⟨.ref C :: rest, kw⟩) R ⟨h, g, d, t, os⟩ := by
  have ends := F.ends
  have has : ∀ {X : String} {b : Bool}, bm.contains (.type X) = b → (Value.ref C :: bm).contains (.type X) = b := fun {X b} e => by
    rw [List.contains_cons, e]
    rfl
  have isB := has m.base
  have noA := has m.noAttr
  have noN := has m.noName
  refine codeAny_builtinAt F.entry ?_
  unfold Builtin.«BaseException.__new__»
  refine PySem.wpAt_bind ?_
  show PySem.wpAt _ _ _ (stack >>= _) _ _ _
  refine PySem.wpAt_bind (PySem.wpAt_stack fun p below => PySem.wpAt_of_wpAny ?_)
  wp_walk
  refine PySem.wpAt_of_wpAny ?_
  rw [F.owner]
  repeat (first
    | with_reducible refine wpAny_madeHere_exc F.canon hC ?_
    | with_reducible refine wpAny_loadPart_at hC ?_
    | (with_reducible refine wpAny_isSubtype_exc hC ?_; first | rw [isB] | rw [noA] | rw [noN])
    | wp_step)
  show R _ _
  rw [Heap.size_push]
  exact hq

theorem typeCallOwn (F : ExcBaseFacts B newId initId bmB) (m : Makes bm B) (small : rest.length ≤ sizeLine) {Q : Fin → Shared → Prop}
    (hC : h.get? C = some (excClassObj nm q C N bs bm hdct sn sub ab col dd k0 k1 k2 k3 k5 newId))
    (hi : Looks (model prog w) h (typeLookup (.ref C) "__init__") (some (.ref fI)))
    (hb : ∀ self, Looks (model prog w) h (bindSpecial (.ref fI) self) (.ref fI, [self]))
    (hq : codeAny (model prog w) A (.call (.ref fI) ⟨.ref (h.objs.size + 1) :: rest, kw⟩)
      (fun r s' => match r with
        | .ok (.ret v) => v = .none ∧ Q (.done (.ret (.ref (h.objs.size + 1)))) s'
        | .ok _ => False
        | .error e => E e s') ⟨bare2 h C rest, g, d, t, os⟩) :
    wpAny (model prog w) A (Builtin.«type.__call__» ⟨.ref C :: rest, kw⟩) Q E ⟨h, g, d, t, os⟩ := by
  repeat (first
    | with_reducible refine wpAny_loadPart_at hC ?_
    | with_reducible refine wpAny_madeBy_exc hC ?_
    | wp_step)
  refine codeAny_call_builtin_code (Code.quiet_builtin _ F.quiet) (checkNew F m hC ?_)
  refine newOwn F m small hC ?_
  show wpAny _ _ _ _ _ _
  have hC1 : (bare2 h C rest).get? C = _ := bare2_keeps hC
  have at1 : (bare2 h C rest).get? (h.objs.size + 1) = some (excO C h.objs.size) := bare2_at
  have own : (Value.ref C :: bm).contains (.ref C) = true := by simp
  have i1 := hi.keeps (h' := bare2 h C rest) fun b o e => bare2_keeps e
  have b1 := (hb (.ref (h.objs.size + 1))).keeps (h' := bare2 h C rest) fun b o e => bare2_keeps e
  unfold isInstance
  repeat (first
    | with_reducible refine wpAny_loadPart_at at1 ?_
    | (with_reducible refine wpAny_isSubtype_exc hC1 ?_; rw [own])
    | wp_step)
  show wpAny _ _ (typeLookup (.ref C) _) _ _ _
  refine i1.at ?_
  refine wpAny_holding (wpAny_bind (b1.at ?_))
  refine wpAny_bind (wpAny_call (codeAny_mono hq fun r s' z => ?_))
  match r, z with
  | .error e, z => exact z
  | .ok (.ret v), z =>
    obtain ⟨rfl, z⟩ := z
    first
      | exact wpAny_pure (wpAny_pure z)
      | (wp_walk; exact z)
  | .ok .next, z => exact z.elim
  | .ok .brk, z => exact z.elim
  | .ok .cont, z => exact z.elim

theorem callOwn (F : ExcBaseFacts B newId initId bmB) (m : Makes bm B) (small : rest.length ≤ sizeLine)
    (hC : h.get? C = some (excClassObj nm q C N bs bm hdct sn sub ab col dd k0 k1 k2 k3 k5 newId))
    (hi : Looks (model prog w) h (typeLookup (.ref C) "__init__") (some (.ref fI)))
    (hb : ∀ self, Looks (model prog w) h (bindSpecial (.ref fI) self) (.ref fI, [self]))
    (hq : codeAny (model prog w) (A.under (.builtin "type.__call__" ⟨.ref C :: rest, kw⟩)) (.call (.ref fI) ⟨.ref (h.objs.size + 1) :: rest, kw⟩)
      (InitBack (h.objs.size + 1) R) ⟨bare2 h C rest, g, d, t, os⟩) :
    codeAny (model prog w) A (.call (.ref C) ⟨rest, kw⟩) R ⟨h, g, d, t, os⟩ := by
  have f1 := tc_lookup
  have f2 := tc_bind (.ref C)
  have isType : (⟨h, g, d, t, os⟩ : Shared).TypeIs (.ref C) "type" := ⟨_, hC, rfl⟩
  refine codeAny_of_tree ?_
  show wpAny _ _ (callAny (.ref C) _) _ _ _
  repeat (any_goals (first | assumption | with_reducible refine wpAny_loadPart_at hC ?_ | wp_step))
  refine ⟨rfl, ?_⟩
  refine codeAny_call_builtin_at (Code.quiet_builtin _ (by decide +kernel)) entry_typeCall
    (wpAny_check_type_call_sub hC (typeCallOwn F m small hC hi hb ?_))
  refine codeAny_mono hq fun r s' z => ?_
  match r, z with
  | .error e, z => exact z
  | .ok (.ret v), z => exact z
  | .ok .next, z => exact z
  | .ok .brk, z => exact z
  | .ok .cont, z => exact z
end
end My
set_option maxHeartbeats 4000000
/-! self.f = v on own exceptions over any built-in base -/
namespace My
open PySem PySem.W PySem.Calls PyProof.Rows PySem.HandSPX PySem.OEX

/-- what the store asks of the class's mro -/
structure MroOk (l : List Value) : Prop where
  ne : l.isEmpty = false
  obj : l.contains (.type "object") = true
  pass : ∀ self : Value, refuseLoop self "__setattr__" l = pure ()
theorem MroOk.cons {C : Addr} {l : List Value} (m : MroOk l) : MroOk (.ref C :: l) :=
  ⟨rfl, by rw [List.contains_cons, m.obj, Bool.or_true], fun self => by rw [refuseLoop_ref]; exact m.pass self⟩
theorem mroValue : MroOk [.type "ValueError", .type "Exception", .type "BaseException", .type "object"] :=
  ⟨rfl, by decide +kernel, fun self => by kernel_rfl⟩
theorem mroKey : MroOk [.type "KeyError", .type "LookupError", .type "Exception", .type "BaseException", .type "object"] :=
  ⟨rfl, by decide +kernel, fun self => by kernel_rfl⟩
theorem mroRuntime : MroOk [.type "RuntimeError", .type "Exception", .type "BaseException", .type "object"] :=
  ⟨rfl, by decide +kernel, fun self => by kernel_rfl⟩

section
open Builtin Builtin.ObjectAttr
variable {prog : Program} {w : World} {A : Around} {E : Value → Shared → Prop} {R : Result → Shared → Prop} {hp : Heap} {g : Array GenState} {d : Drawn} {t : Nat} {os : OsState}
variable {K : W.Frag} {name : Str} {tk : Tok} {v : Value} {x C dx : Addr} {fv : Array Value} {cd : ClassData}

/-- the first attribute: the exception gets its dict -/
theorem storeNew (inK : K.In hp) (hx : hp.get? x = some { cls := .ref C, data := .fields fv }) (hcd : W.clsIn K C = some cd) (m : MroOk cd.mro)
    (hh : cd.hasDict = true) (no : W.findIn K (.ref C) name = some none)
    (hq : ∀ h' tk' dx, (∀ b o, b ≠ x → hp.get? b = some o → h'.get? b = some o) → hp.objs.size ≤ dx → dx ≠ x →
      h'.get? x = some { cls := .ref C, dict := some dx, data := .fields fv } → h'.Ns1 dx (fun y => if y = name then some v else none) →
      R (.ok (.ret .none)) ⟨h', g, d, tk', os⟩) :
    codeAny (model prog w) A (.call (.builtin "object.__setattr__") ⟨[.ref x, .str name tk, v], []⟩) R ⟨hp, g, d, t, os⟩ := by
  have inst : W.InstAt hp x { cls := .ref C, data := .fields fv } C none := ⟨hx, rfl, rfl, trivial⟩
  have SF := F.store_object
  have apart : x ≠ hp.objs.size := Nat.ne_of_lt (Heap.lt_size hx)
  have sub : W.Looks (model prog w) hp (isInstance (.ref x) (.type "object")) true :=
    inst.type.andThen (W.looks_mroIn inK (by
      unfold W.mroIn
      rw [hcd, Option.bind_some, if_neg (by rw [m.ne]; decide), m.obj]))
  refine codeAny_call_builtin SF.slot.plain SF.entry (@W.check_slot (model prog w) _ _ ⟨hp, g, d, t, os⟩ "object.__setattr__" "object" "__setattr__"
    (.ref x) [.str name tk, v] [] _ SF.kind SF.split sub (SF.args (.ref x) (.str name tk) v) ?_)
  have mroL : W.Looks (model prog w) hp (mroOf (.ref C)) cd.mro := (W.looks_clsIn inK hcd).andThen .now
  have taker : W.Looks (model prog w) hp (storeTaker? none) none := .now
  have clsL : W.Looks (model prog w) hp (classData C) cd := W.looks_clsIn inK hcd
  rw [W.osa_eq, refuse_eq]
  refine wpAny_bind (wpAny_bind (inst.type.at (wpAny_bind (mroL.at ?_))))
  rw [m.pass]
  refine wpAny_pure (wpAny_bind (inst.type.at (wpAny_bind ((W.looks_findIn inK no).at (wpAny_bind (taker.at ?_))))))
  show wpAny _ _ (storeInOwnDict (.ref x) (.ref C) (.str name tk) name v false) _ _ _
  obtain ⟨nm, bs, mro, ns, qn, hd, sn, sb, ab, col, del⟩ := cd
  dsimp only at hh
  subst hh
  unfold storeInOwnDict ownDictForStores
  repeat (first
    | with_reducible refine store_in_new ?_ ?_
    | with_reducible refine wpAny_loadPart_at hx ?_
    | with_reducible refine clsL.at ?_
    | wp_step)
  · exact ⟨_, #[], _, (Heap.get?_update_ne _ _ _ _ apart.symm).trans (Heap.get?_push_at rfl rfl), rfl, fun e he => absurd he (by simp), fun _ => rfl⟩
  · intro h' tk' hn' hs
    have hx1 : (hp.push { cls := .type "dict", data := .dict #[] }).get? x = some { cls := .ref C, data := .fields fv } := Heap.get?_push_of_some _ hx
    refine hq h' tk' hp.objs.size (fun b o hb ho => ?_) (Nat.le_refl _) apart.symm ?_ hn'
    · exact (hs.2 b (Nat.ne_of_lt (Heap.lt_size ho))).trans ((Heap.get?_update_ne _ _ _ _ hb).trans (Heap.get?_push_of_some _ ho))
    · exact (hs.2 x apart).trans (Heap.get?_update_self _ hx1 rfl)

/-- a further attribute -/
theorem storeMore {m0 : Str → Option Value} {nl : List Str} (inK : K.In hp) (hx : hp.get? x = some { cls := .ref C, dict := some dx, data := .fields fv })
    (hns : hp.Ns1 dx m0) (hw : Within m0 nl) (few : nl.length ≤ 1000) (hcd : W.clsIn K C = some cd) (m : MroOk cd.mro) (hh : cd.hasDict = true)
    (no : W.findIn K (.ref C) name = some none)
    (hq : ∀ h' tk', (∀ b o, b ≠ dx → hp.get? b = some o → h'.get? b = some o) → h'.Ns1 dx (fun y => if y = name then some v else m0 y) →
      R (.ok (.ret .none)) ⟨h', g, d, tk', os⟩) :
    codeAny (model prog w) A (.call (.builtin "object.__setattr__") ⟨[.ref x, .str name tk, v], []⟩) R ⟨hp, g, d, t, os⟩ := by
  obtain ⟨oD, esD, epD, hoD, hdD, _⟩ := hns.count hw
  have inst : W.InstAt hp x { cls := .ref C, dict := some dx, data := .fields fv } C (some oD) := ⟨hx, rfl, rfl, hoD⟩
  have SF := F.store_object
  have sub : W.Looks (model prog w) hp (isInstance (.ref x) (.type "object")) true :=
    inst.type.andThen (W.looks_mroIn inK (by
      unfold W.mroIn
      rw [hcd, Option.bind_some, if_neg (by rw [m.ne]; decide), m.obj]))
  refine codeAny_call_builtin SF.slot.plain SF.entry (@W.check_slot (model prog w) _ _ ⟨hp, g, d, t, os⟩ "object.__setattr__" "object" "__setattr__"
    (.ref x) [.str name tk, v] [] _ SF.kind SF.split sub (SF.args (.ref x) (.str name tk) v) ?_)
  have mroL : W.Looks (model prog w) hp (mroOf (.ref C)) cd.mro := (W.looks_clsIn inK hcd).andThen .now
  have taker : W.Looks (model prog w) hp (storeTaker? none) none := .now
  have clsL : W.Looks (model prog w) hp (classData C) cd := W.looks_clsIn inK hcd
  rw [W.osa_eq, refuse_eq]
  refine wpAny_bind (wpAny_bind (inst.type.at (wpAny_bind (mroL.at ?_))))
  rw [m.pass]
  refine wpAny_pure (wpAny_bind (inst.type.at (wpAny_bind ((W.looks_findIn inK no).at (wpAny_bind (taker.at ?_))))))
  show wpAny _ _ (storeInOwnDict (.ref x) (.ref C) (.str name tk) name v false) _ _ _
  obtain ⟨nm, bs, mro, ns, qn, hd, sn, sb, ab, col, del⟩ := cd
  dsimp only at hh
  subst hh
  unfold storeInOwnDict ownDictForStores
  repeat (first
    | with_reducible refine store_in_old hns hw few ?_
    | with_reducible refine wpAny_loadPart_at hx ?_
    | with_reducible refine clsL.at ?_
    | wp_step)
  intro h' tk' hn' hs
  exact hq h' tk' (fun b o hb ho => (hs.2 b hb).trans ho) hn'
end
end My
set_option maxHeartbeats 4000000
/-! own exceptions made as values, by place or by name; their __init__ walked as a def -/
namespace My
open PySem PySem.Spec PyProof.Rows L2

/-- what the written part says of an own exception class, whatever built-in it stands on -/
structure ExG (K : PySem.W.Frag) (C : Addr) : Prop where
  cls : ∃ nm q N bs bm sn sub ab col dd k0 k1 k2 k3 k5 B newId initId bmB,
    K.lookup C = some (excClassObj nm q C N bs bm true sn sub ab col dd k0 k1 k2 k3 k5 newId) ∧ ExcBaseFacts B newId initId bmB ∧ Makes bm B ∧ MroOk bm
  sa : PySem.W.findIn K (.ref C) "__setattr__" = some (some (.builtin "object.__setattr__"))
  kC : PySem.W.keepIn K (.ref C) = true

section
variable {X : Cx} {pins : List (Addr × Obj)} {σ : L2.St} {H : Hp} {s : Shared} {a C dx : Addr} {f : Str} {y : V} {u : Value} {fs : List (Str × V)}
  {Q : Unit → Shared → Prop} {E : Value → Shared → Prop} {A : Around}
/-- a heap may be read without one object that is new -/
theorem Inv.grow {h' : Heap} {b : Addr} {o : HO} {t' : Nat} {G : Heap} (I : Inv X pins σ H { s with heap := G }) (k : ∀ c u, G.get? c = some u → h'.get? c = some u)
    (gone : G.get? b = none) (hn : H b = none) (new : ObjOk X.prog X.w (upd H b o) h' b o) : Inv X pins σ (upd H b o) { s with heap := h', toks := t' } :=
  L2.Inv.laidN (s := { s with heap := G }) I k gone hn new

theorem selfNew (T : ExG X.K C) (I : Inv X pins σ H s) (e : H a = some (exo a C none)) (no : PySem.W.findIn X.K (.ref C) f = some none) (ry : L2.RelV y u)
    (h : ∀ dx s', H dx = none → dx ≠ a → Inv X pins σ (upd (upd H a (exo a C (some dx))) dx (exd dx [(f, y)])) s' → Q () s') :
    wpAny (model X.prog X.w) A (setAttr (.ref a) f u) Q E s := by
  obtain ⟨nm, q, N, bs, bm, sn, sub, ab, col, dd, k0, k1, k2, k3, k5, B, newId, initId, bmB, hC, _, _, mro⟩ := T.cls
  have hcl : PySem.W.clsIn X.K C = some { name := nm, bases := bs, mro := .ref C :: bm, ns := N, qualname := q, hasDict := true, slotNames := sn, subclasses := sub, abstract := ab, collection := col, hasDel := false } := by
    unfold PySem.W.clsIn
    rw [hC]
    all_goals rfl
  obtain ⟨t1, ho⟩ := exo_at I.hok e
  have I0 := I
  obtain ⟨hp, g, d, t, os⟩ := s
  refine PySem.W.set_plain I.kIn (ox := { cls := .ref C, dict := none, data := .fields #[.ref t1, .none, .none, .none, .bool false, .none] }) (od := none) ⟨ho, rfl, rfl, trivial⟩ T.sa ?_
  refine storeNew I.kIn ho hcl mro.cons rfl no (fun h' tk' dx k dn dne hx hn => ?_)
  have hnd : H dx = none := I.hok.fresh dn
  obtain ⟨G, g1, g2⟩ := restrict h' fun b => decide (b ≠ dx)
  have same : ∀ b, b ≠ dx → G.get? b = h'.get? b := fun b hb => g1 b (decide_eq_true hb)
  have gone : G.get? dx = none := g2 dx (by simp)
  have sub' : ∀ c o, G.get? c = some o → h'.get? c = some o := fun c o z => by
    by_cases hc : c = dx
    · rw [hc, gone] at z
      cases z
    · rw [← same c hc]
      exact z
  have old : ∀ c o, hp.get? c = some o → c ≠ dx := fun c o z => Nat.ne_of_lt (Nat.lt_of_lt_of_le (Heap.lt_size z) dn)
  have hxG : G.get? a = some { cls := .ref C, dict := some dx, data := .fields #[.ref t1, .none, .none, .none, .bool false, .none] } := by
    rw [same a (Ne.symm dne)]
    exact hx
  have I1 : Inv X pins σ (upd H a (exo a C (some dx))) { (⟨hp, g, d, t, os⟩ : Shared) with heap := G, toks := tk' } :=
    I0.write (t' := tk') (x := a) (e := a) (o := exo a C (some dx)) (by rw [e]; exact True.intro) (.inl rfl)
      (fun b o hb z => by rw [same b (old b o z)]; exact k b o hb z) ⟨_, hxG⟩ (exo_ok hxG)
  have hn1 : upd H a (exo a C (some dx)) dx = none := by
    rw [upd_ne dne]
    exact hnd
  exact h dx _ hnd dne (L2.Inv.laidN (s := { (⟨hp, g, d, t, os⟩ : Shared) with heap := G, toks := tk' }) (t' := tk') I1 sub' gone hn1
    (exd_ok hn (relO_put (fs := []) ry fun g => True.intro)))

theorem selfMore (T : ExG X.K C) (I : Inv X pins σ H s) (e : H a = some (exo a C (some dx))) (ed : H dx = some (exd dx fs)) (few : fs.length ≤ 900)
    (no : PySem.W.findIn X.K (.ref C) f = some none) (ry : L2.RelV y u) (h : ∀ s', Inv X pins σ (upd H dx (exd dx ((f, y) :: fs))) s' → Q () s') :
    wpAny (model X.prog X.w) A (setAttr (.ref a) f u) Q E s := by
  obtain ⟨nm, q, N, bs, bm, sn, sub, ab, col, dd, k0, k1, k2, k3, k5, B, newId, initId, bmB, hC, _, _, mro⟩ := T.cls
  have hcl : PySem.W.clsIn X.K C = some { name := nm, bases := bs, mro := .ref C :: bm, ns := N, qualname := q, hasDict := true, slotNames := sn, subclasses := sub, abstract := ab, collection := col, hasDel := false } := by
    unfold PySem.W.clsIn
    rw [hC]
    all_goals rfl
  obtain ⟨t1, ho⟩ := exo_at I.hok e
  obtain ⟨mA, hns, rel⟩ := exd_at I.hok ed
  have hw := within_of rel
  have I0 := I
  obtain ⟨hp, g, d, t, os⟩ := s
  obtain ⟨oD, _, _, hoD, _, _⟩ := hns.count hw
  refine PySem.W.set_plain I.kIn (ox := { cls := .ref C, dict := some dx, data := .fields #[.ref t1, .none, .none, .none, .bool false, .none] }) (od := some oD) ⟨ho, rfl, rfl, hoD⟩ T.sa ?_
  refine storeMore I.kIn ho hns hw (by rw [List.length_map]; omega) hcl mro.cons rfl no (fun h' tk' k hn => ?_)
  have hd : ∃ o, h'.get? dx = some o := by
    obtain ⟨o, _, _, e', _⟩ := hn
    exact ⟨o, e'⟩
  exact h _ (I0.write (t' := tk') (x := dx) (e := dx) (o := exd dx ((f, y) :: fs)) (by rw [ed]; exact True.intro) (.inl rfl) k hd (exd_ok hn (relO_put ry rel)))
end

/-- self.f = e -/
def tSelf (K : PySem.W.Frag) (f : Str) (to te : TE) : TS := fun D σ H => te σ H fun y H1 => to σ H1 fun x H2 => ∃ a C : Addr, x = .ref a ∧ ExG K C ∧ PySem.W.findIn K (.ref C) f = some none ∧
  ((H2 a = some (exo a C none) ∧ ∀ dx, H2 dx = none → dx ≠ a → D.nx σ (upd (upd H2 a (exo a C (some dx))) dx (exd dx [(f, y)]))) ∨
    ∃ (dx : Addr) (fs : List (Str × V)), H2 a = some (exo a C (some dx)) ∧ H2 dx = some (exd dx fs) ∧ fs.length ≤ 900 ∧ D.nx σ (upd H2 dx (exd dx ((f, y) :: fs))))
section
variable {X : Cx} {o e : Expr} {to te : TE} {f : Str} {p' pos : Pos}
theorem ps_self (ho : PE X o to) (he : PE X e te) (hs : swapsWith e (some (.Attribute o f p')) pos.line X.env = pure false := by rfl) :
    PS X (.Assign [.Attribute o f p'] e pos) (tSelf X.K f to te) := by
  refine ⟨fun pins s σ H D I h => ?_⟩
  refine plainObj_wpAny_Assign_Attribute (thn (he.run pins s σ H _ I h) ?_) hs
  rintro v s1 ⟨y, H1, I1, r1, q1⟩
  refine thn (ho.run pins s1 σ H1 _ I1 q1) ?_
  rintro u s2 ⟨x, H2, I2, r2, a, C, ex, T, no, q⟩
  subst ex
  obtain rfl : u = Value.ref a := r2
  rcases q with ⟨ea, q⟩ | ⟨dx, fs, ea, ed, few, q⟩
  · exact selfNew T I2 ea no r1 fun dx s' n ne J => ⟨σ, _, J, q dx n ne⟩
  · exact selfMore T I2 ea ed few no r1 fun s' J => ⟨σ, _, J, q⟩
end

/-! ### C(e, ..), C(.., k = v) as a value -/
def tMadeK (C : Addr) (n m : Nat) (sp : Sp) (gV : List V → List V → List V) (t tk : TA) : TE := fun σ H Q => t σ H fun vs H1 => tk σ H1 fun zs H2 => vs.length = n ∧ zs.length = m ∧ n ≤ 1000 ∧
  ∀ a, H2 a = none → sp (gV (.ref a :: vs) zs) (upd H2 a (exo a C none)) (fun v H3 => v = .non ∧ Q (.ref a) H3) (fun _ _ _ => False)
section
variable {X : Cx} {CX : CXT} {k n : Nat} {fI C : Addr} {fd : FuncData} {ps ks : List Str} {sp : Sp} {x : Str} {p pos : Pos} {e : Expr} {es : List Expr} {kws : List Keyword}
  {t tk : TA} {g : List Value → List Value → List Value} {gV : List V → List V → List V}
theorem runMade {pins : List (Addr × Obj)} {σ : L2.St} {H : Hp} {s : Shared} {Q : VK} {us ws : List Value} {vs zs : List V} (T : ExG X.K C)
    (iC : PySem.W.findIn X.K (.ref C) "__init__" = some (some (.ref fI))) (tI : PySem.W.typeIn X.K (.ref fI) = some (.type "function"))
    (F : FnOk X.prog X.w X.K X.mg X.base CX k fI fd ps sp) (hr : Room (k + 1) X.A) (hb : KBn X.K fd ps (n + 1) ks g gV) (hx : Passes CX X (fun _ _ _ => False))
    (I : Inv X pins σ H s) (r : Vals vs us) (rz : Vals zs ws) (l1 : vs.length = n) (l2 : zs.length = ks.length) (few : n ≤ 1000)
    (h : ∀ a, H a = none → sp (gV (.ref a :: vs) zs) (upd H a (exo a C none)) (fun v H3 => v = .non ∧ Q (.ref a) H3) (fun _ _ _ => False)) :
    wpAny (model X.prog X.w) X.A (call (.ref C) us (ks.zip ws)) (EP X pins σ Q) X.xe s := by
  obtain ⟨nm, q, N, bs, bm, sn, sub, ab, col, dd, k0, k1, k2, k3, k5, B, newId, initId, bmB, hC, FB, mk, _⟩ := T.cls
  obtain ⟨hp, gg, dr, tok, os⟩ := s
  have sz : hp.objs.size ≤ hp.objs.size + 1 := Nat.le_succ _
  have hq := h (hp.objs.size + 1) (I.hok.fresh sz)
  have I2 : Inv X pins σ (upd H (hp.objs.size + 1) (exo (hp.objs.size + 1) C none)) ⟨bare2 hp C us, gg, dr, tok, os⟩ :=
    I.laid (t' := tok) (a := hp.objs.size + 1) (o := exo (hp.objs.size + 1) C none) (h' := bare2 hp C us) (fun b o z => bare2_keeps z) sz (exo_ok bare2_at)
  have r1 : Vals (V.ref (hp.objs.size + 1) :: vs) (Value.ref (hp.objs.size + 1) :: us) := .cons rfl r
  have r2 := hb.rel r1 rz
  have n1 : (Value.ref (hp.objs.size + 1) :: us).length = n + 1 := by
    rw [List.length_cons, ← r.length, l1]
  have small : us.length ≤ sizeLine := by
    rw [← Paired.length r, l1, sizeLine_eq]
    omega
  refine wpAny_call (callOwn FB mk small (I.kIn _ _ hC) (PySem.W.looks_findIn I.kIn iC) (fun self => PySem.W.bind_fn I.kIn self tI)
    (codeAny_mono (F.run _ X.stack _ _ ⟨Value.ref (hp.objs.size + 1) :: us, ks.zip ws⟩ (g (Value.ref (hp.objs.size + 1) :: us) ws) _ _ (fun _ _ _ => False)
      (hr.make C us (ks.zip ws)) (I2.env0.make C us (ks.zip ws)) (hb.to _ (Value.ref (hp.objs.size + 1) :: us) ws I2.kIn n1 (rz.length.symm.trans l2)) r2 hq) fun r s' hq' => ?_))
  match r, hq' with
  | .error e, hq' => exact hx pins σ _ _ e s' I2 hq'
  | .ok (.ret u), hq' =>
    obtain ⟨v, H', I3, rv, ev, q3⟩ := I2.after hq'
    subst ev
    exact ⟨rv, ⟨V.ref (hp.objs.size + 1), H', I3, rfl, q3⟩⟩
  | .ok .next, hq' => exact False.elim hq'
  | .ok .brk, hq' => exact False.elim hq'
  | .ok .cont, hq' => exact False.elim hq'

theorem pe_madeK0 (T : ExG X.K C) (iC : PySem.W.findIn X.K (.ref C) "__init__" = some (some (.ref fI))) (tI : PySem.W.typeIn X.K (.ref fI) = some (.type "function"))
    (F : FnOk X.prog X.w X.K X.mg X.base CX k fI fd ps sp) (hr : Room (k + 1) X.A) (hg : Gl X x) (hm : X.mg x = some (.ref C)) (hb : KBn X.K fd ps 1 ks g gV)
    (hx : Passes CX X (fun _ _ _ => False)) (hkw : PK X kws tk) (hall : (backToKw pos (keywordEach kws X.env)).all (·.1.isSome) = true := by rfl)
    (hks : (backToKw pos (keywordEach kws X.env)).filterMap (·.1) = ks := by rfl) (hdb : (x == ("__debug__" : Str)) = false := by decide)
    (hpl : ((backTo pos (starEach [] X.env)).any (·.1) || (backToKw pos (keywordEach kws X.env)).any (·.1.isNone)) = false := by rfl) :
    PE X (.Call (.Name x p) [] kws pos) (tMadeK C 0 ks.length sp gV tNil tk) := by
  refine ⟨fun pins s σ H Q I h => ?_⟩
  refine wpAny_Call_Name_kw (ld_glob I hg hm ?_ hdb)
  refine PySem.W.callWith_KW0 (h₀ := X.base) I.ok.mod.kin T.kC hall ?_ hpl
  refine thn (hkw.run pos pins s σ H _ I h) ?_
  rintro ws s2 ⟨zs, H2, I2, rz, l1, l2, l3, q2⟩
  refine ⟨I2.kIn, ?_⟩
  rw [hks]
  exact runMade (us := []) (vs := []) T iC tI F hr hb hx I2 .nil rz rfl l2 l3 q2

theorem pe_madeK (T : ExG X.K C) (iC : PySem.W.findIn X.K (.ref C) "__init__" = some (some (.ref fI))) (tI : PySem.W.typeIn X.K (.ref fI) = some (.type "function"))
    (F : FnOk X.prog X.w X.K X.mg X.base CX k fI fd ps sp) (hr : Room (k + 1) X.A) (hg : Gl X x) (hm : X.mg x = some (.ref C)) (hb : KBn X.K fd ps (n + 1) ks g gV)
    (hx : Passes CX X (fun _ _ _ => False)) (ha : PA X (e :: es) t) (hkw : PK X kws tk) (hall : (backToKw pos (keywordEach kws X.env)).all (·.1.isSome) = true := by rfl)
    (hks : (backToKw pos (keywordEach kws X.env)).filterMap (·.1) = ks := by rfl) (hdb : (x == ("__debug__" : Str)) = false := by decide)
    (he : starEach (e :: es) X.env = (false, eval e X.env) :: starEach es X.env := by rfl)
    (hpl : ((backTo pos (starEach (e :: es) X.env)).any (·.1) || (backToKw pos (keywordEach kws X.env)).any (·.1.isNone)) = false := by rfl) :
    PE X (.Call (.Name x p) (e :: es) kws pos) (tMadeK C n ks.length sp gV t tk) := by
  refine ⟨fun pins s σ H Q I h => ?_⟩
  refine wpAny_Call_Name_kw (ld_glob I hg hm ?_ hdb)
  refine PySem.W.callWith_KW (h₀ := X.base) I.ok.mod.kin T.kC hall (thn (ha.run pos pins s σ H _ I h) ?_) hpl he
  rintro us s1 ⟨vs, H1, I1, r, q⟩
  refine thn (hkw.run pos pins s1 σ H1 _ I1 q) ?_
  rintro ws s2 ⟨zs, H2, I2, rz, l1, l2, l3, q2⟩
  refine ⟨I2.kIn, ?_⟩
  rw [hks]
  exact runMade T iC tI F hr hb hx I2 r rz l1 l2 l3 q2
end
end My
set_option maxHeartbeats 4000000
/-! own exceptions as values: an attribute read, isinstance asked -/
namespace My
open PySem PySem.Spec PyProof.Rows L2

/-- what the class says of attributes read and of isinstance -/
structure ExR (K : PySem.W.Frag) (C : Addr) : Prop where
  ga : PySem.W.findIn K (.ref C) "__getattribute__" = some (some (.builtin "BaseException.__getattribute__"))
  gg : PySem.W.findIn K (.ref C) "__getattr__" = some none
  exC : PySem.W.subIn K (.ref C) (.type "BaseException") = some true
  hd : PySem.W.hasDictIn K C = true
  ha : PySem.W.findIn K (.ref C) "__class__" = some (some (.builtin "object.__class__"))
  hn : PySem.W.specialIn K (.builtin "object.__class__") "__get__" = some (some (.builtin "getset_descriptor.__get__"))
  ht : PySem.W.takesIn K (.builtin "object.__class__") = some true
  hm : PySem.W.mroIn K C (.type "object") = some true

/-- e.f, e an exception that has it -/
def tExAt (K : PySem.W.Frag) (f : Str) (te : TE) : TE := fun σ H Q => te σ H fun x H1 => ∃ (a C dx : Addr) (fs : List (Str × V)) (v : V), x = .ref a ∧ ExR K C ∧
  PySem.W.findIn K (.ref C) f = some none ∧ H1 a = some (exo a C (some dx)) ∧ H1 dx = some (exd dx fs) ∧ fs.lookup f = some v ∧ Q v H1
section
variable {X : Cx} {e : Expr} {te : TE} {f : Str} {pos : Pos}
theorem pe_exAt (he : PE X e te) (hb : attributeBase e f X.env (eval e X.env) = eval e X.env := by rfl) : PE X (.Attribute e f pos) (tExAt X.K f te) := by
  refine ⟨fun pins s σ H Q I h => ?_⟩
  refine attr_of hb (thn (he.run pins s σ H _ I h) ?_)
  rintro u s1 ⟨x, H1, I1, rx, a, C, dx, fs, v, ex, R, no, ea, ed, el, q⟩
  subst ex
  obtain rfl : u = Value.ref a := rx
  obtain ⟨t1, ho⟩ := exo_at I1.hok ea
  obtain ⟨mA, hns, rel⟩ := exd_at I1.hok ed
  obtain ⟨od, hod, hl⟩ := lookIn_ns hns
  obtain ⟨u', hu, ru⟩ := RelO.some_of (v := v) (o := mA f) (by rw [← el]; exact rel f)
  have J : PySem.W.InstAt s1.heap a { cls := .ref C, dict := some dx, data := .fields #[.ref t1, .none, .none, .none, .bool false, .none] } C (some od) := ⟨ho, rfl, rfl, hod⟩
  exact HandSPX.exc_get I1.kIn J R.ga R.gg R.exC (PySem.W.findObj_own R.hd no rfl (by rw [hl, hu])) (handed_of ru) ⟨v, H1, I1.tok _, ru, q⟩

/-- isinstance(e, c), e an exception kept as a value -/
def rIsX (K : PySem.W.Frag) : List V → Hp → VK → Prop := fun xs H Q => ∃ (a D : Addr) (d : Option Addr) (c : V) (cv : Value) (b : Bool), xs = [.ref a, c] ∧ ExR K D ∧
  H a = some (exo a D d) ∧ (∀ dx, d = some dx → ∃ fs, H dx = some (exd dx fs)) ∧ ClsV c cv ∧ PySem.W.kitOne K (.ref D) cv = some b ∧ Q (.bl b) H
theorem call_isX : CallR X (.builtin "isinstance") (rIsX X.K) := by
  intro pins s σ H xs us Q I r h
  obtain ⟨a, D, d, c, cv, b, rfl, R, ea, ed, hc, e, q⟩ := h
  obtain ⟨u1, u2, rfl, r1, r2⟩ := vals2 r
  obtain rfl : u1 = Value.ref a := r1
  have e2 := hc.eq r2
  subst e2
  obtain ⟨t1, ho⟩ := exo_at I.hok ea
  obtain ⟨cdD, hcD, _⟩ := PySem.W.any_some R.hd
  have isCls : (PySem.W.clsIn X.K D).isSome = true := by
    rw [hcD]
    rfl
  have done : ∀ tk, EP X pins σ Q (.bool b) { s with toks := tk } := fun tk => ⟨.bl b, H, I.tok _, rfl, q⟩
  cases d with
  | none =>
    have J : PySem.W.InstAt s.heap a { cls := .ref D, dict := none, data := .fields #[.ref t1, .none, .none, .none, .bool false, .none] } D none := ⟨ho, rfl, rfl, trivial⟩
    exact PySem.W.kia_one (PySem.W.kitx_exc isCls R.ga R.gg R.exC R.ha R.hn R.ht R.hm) I.kIn J e (fun z => nomatch z) done
  | some dx =>
    obtain ⟨fs, ed'⟩ := ed dx rfl
    obtain ⟨mA, hns, rel⟩ := exd_at I.hok ed'
    obtain ⟨od, hod, hl⟩ := lookIn_ns hns
    have J : PySem.W.InstAt s.heap a { cls := .ref D, dict := some dx, data := .fields #[.ref t1, .none, .none, .none, .bool false, .none] } D (some od) := ⟨ho, rfl, rfl, hod⟩
    exact PySem.W.kia_one (PySem.W.kitx_exc isCls R.ga R.gg R.exC R.ha R.hn R.ht R.hm) I.kIn J e (fun z => nomatch z) done
end
end My
set_option maxHeartbeats 4000000
/-! the __init__ of own exceptions, by their shapes -/
namespace My
open PySem PySem.Spec PyProof.Rows L2

theorem visOf {N ps : List Str} {sc : Scope} (S : FnScope N ps sc) {x : Str} (h : x ∈ ps) : Vis sc x := by
  rcases S.par x h with k | k
  · exact .inl k
  · exact .inr (.inl k)

/-- one attribute: self.f = f -/
def spOne (C : Addr) (f : Str) : Sp := fun vs H Q _ => ∃ (a : Addr) (v : V), vs = [.ref a, v] ∧ H a = some (exo a C none) ∧
  ∀ dx, H dx = none → dx ≠ a → Q .non (upd (upd H a (exo a C (some dx))) dx (exd dx [(f, v)]))
/-- two: self.f = f, self.g = g -/
def spTwo (C : Addr) (f g : Str) : Sp := fun vs H Q _ => ∃ (a : Addr) (v u : V), vs = [.ref a, v, u] ∧ H a = some (exo a C none) ∧
  ∀ dx, H dx = none → dx ≠ a → Q .non (upd (upd (upd H a (exo a C (some dx))) dx (exd dx [(f, v)])) dx (exd dx [(g, u), (f, v)]))
/-- none: B.__init__(self, a text) -/
def spNil (C : Addr) : Sp := fun vs H Q _ => ∃ a : Addr, vs = [.ref a] ∧ H a = some (exo a C none) ∧ Q .non H

section
variable {P : Program} {w : World} {K : PySem.W.Frag} {mg : Str → Option Value} {base : Heap} {st : Stmt} {qual f g : Str} {C fI : Addr} {fd : FuncData}
theorem ok_one (F : Fun K "__init__" qual st fI fd) (S : FnScope ["self", f] ["self", f] (defScope st))
    (hb : ∃ p1 p2 p3 p4, defBody st = [.Assign [.Attribute (.Name "self" p1) f p2] (.Name f p3) p4])
    (hf : (f == ("__debug__" : Str)) = false) (hf2 : (f == ("__classdict__" : Str)) = false) (T : ExG K C) (no : PySem.W.findIn K (.ref C) f = some none) :
    FnOk P w K mg base CX0 1 fI fd ["self", f] (spOne C f) := by
  obtain ⟨p1, p2, p3, p4, hb⟩ := hb
  refine F.ok S (fun vs H Q E h => ?_) (fun cdv A outer s H vs Q E hr h => ?_)
  · obtain ⟨a, v, rfl, _⟩ := h
    rfl
  · obtain ⟨a, v, rfl, ha, k⟩ := h
    rw [hb]
    refine ⟨_, pss_one (ps_self (pv 0 (hv := visOf S (by simp))) (pv 1 (hv := visOf S (by simp)) (hd := hf) (hcd := hf2))), ?_⟩
    exact ⟨v, rfl, .ref a, rfl, a, C, rfl, T, no, .inl ⟨ha, fun dx n ne => k dx n ne⟩⟩
theorem ok_two (F : Fun K "__init__" qual st fI fd) (S : FnScope ["self", f, g] ["self", f, g] (defScope st))
    (hb : ∃ p1 p2 p3 p4 q1 q2 q3 q4, defBody st = [.Assign [.Attribute (.Name "self" p1) f p2] (.Name f p3) p4, .Assign [.Attribute (.Name "self" q1) g q2] (.Name g q3) q4])
    (hf : (f == ("__debug__" : Str)) = false) (hf2 : (f == ("__classdict__" : Str)) = false) (hg : (g == ("__debug__" : Str)) = false) (hg2 : (g == ("__classdict__" : Str)) = false)
    (T : ExG K C) (no : PySem.W.findIn K (.ref C) f = some none) (no2 : PySem.W.findIn K (.ref C) g = some none) :
    FnOk P w K mg base CX0 1 fI fd ["self", f, g] (spTwo C f g) := by
  obtain ⟨p1, p2, p3, p4, q1, q2, q3, q4, hb⟩ := hb
  refine F.ok S (fun vs H Q E h => ?_) (fun cdv A outer s H vs Q E hr h => ?_)
  · obtain ⟨a, v, u, rfl, _⟩ := h
    rfl
  · obtain ⟨a, v, u, rfl, ha, k⟩ := h
    rw [hb]
    refine ⟨_, pss_cons (ps_self (pv 0 (hv := visOf S (by simp))) (pv 1 (hv := visOf S (by simp)) (hd := hf) (hcd := hf2)))
      (pss_one (ps_self (pv 0 (hv := visOf S (by simp))) (pv 2 (hv := visOf S (by simp)) (hd := hg) (hcd := hg2)))), ?_⟩
    refine ⟨v, rfl, .ref a, rfl, a, C, rfl, T, no, .inl ⟨ha, fun dx n ne => ?_⟩⟩
    exact ⟨u, rfl, .ref a, rfl, a, C, rfl, T, no2, .inr ⟨dx, _, by rw [upd_ne (Ne.symm ne), upd_same], upd_same, by simp, k dx n ne⟩⟩
end

/-! ### RuntimeError.__init__(self, ..) -/
theorem typRE : typeOf (.type "RuntimeError") = pure (.type "type") := by kernel_rfl
structure ExRt (K : PySem.W.Frag) (C : Addr) : Prop where
  cls : ∃ nm q N bs sn sub ab col dd k0 k1 k2 k3 k5, K.lookup C = some (excClassObj nm q C N bs [.type "RuntimeError", .type "Exception", .type "BaseException", .type "object"] true sn sub ab col dd k0 k1 k2 k3 k5 "RuntimeError.__new__")
section
variable {X : Cx} {pins : List (Addr × Obj)} {σ : L2.St} {H : Hp} {s : Shared} {a C : Addr} {A : Around} {E : Value → Shared → Prop}
theorem initRt {us : List Value} {Q : Value → Shared → Prop} (T : ExRt X.K C) (I : Inv X pins σ H s) (e : H a = some (exo a C none)) (hl : us.length ≤ sizeLine)
    (h : ∀ s', Inv X pins σ H s' → Q .none s') : wpAny (model X.prog X.w) A (call (.builtin "RuntimeError.__init__") (.ref a :: us)) Q E s := by
  obtain ⟨nm, q, N, bs, sn, sub, ab, col, dd, k0, k1, k2, k3, k5, hC⟩ := T.cls
  obtain ⟨t1, ho⟩ := exo_at I.hok e
  have I0 := I
  obtain ⟨hp, g, d, t, os⟩ := s
  refine wpAny_call (PySem.HandSPX.init_base F.excBase_RuntimeError (fun Y => rfl) (I.kIn _ _ hC) ho hl fun h' t2 k hx => ?_)
  have J := I0.write (t' := t) (x := a) (e := a) (o := exo a C none) (by rw [e]; exact True.intro) (.inl rfl) k ⟨_, hx⟩ (exo_ok hx)
  have eu : upd H a (exo a C none) = H := by
    funext b
    by_cases hb : b = a
    · rw [hb, upd_same, e]
    · rw [upd_ne hb]
  rw [eu] at J
  exact h _ J
end
def tRtI (K : PySem.W.Frag) (ta : TA) : TE := fun σ H Q => ta σ H fun vs H1 => ∃ (a C : Addr) (ws : List V), vs = .ref a :: ws ∧ ws.length ≤ 1000 ∧ ExRt K C ∧ H1 a = some (exo a C none) ∧ Q .non H1
section
variable {X : Cx} {e : Expr} {es : List Expr} {ta : TA} {p1 p2 pos : Pos}
theorem pe_rtinit {pl : Sem Bool} (hg : Gl X "RuntimeError") (hm : X.mg "RuntimeError" = none)
    (vV : PySem.W.findCls X.K (.type "RuntimeError") (.type "type") "__init__" = some (.val (.builtin "RuntimeError.__init__"))) (ha : PA X (e :: es) ta)
    (hc : eval (.Call (.Attribute (.Name "RuntimeError" p1) "__init__" p2) (e :: es) [] pos) X.env = (do
      let ov ← eval (.Name "RuntimeError" p1) X.env
      standAt p2.atName
      let (f, first) ← holding [ov] (getMethod ov "__init__" pl)
      callWith pos f first (backTo pos (starEach (e :: es) X.env)) (backToKw pos (keywordEach [] X.env))) := by rfl)
    (he : starEach (e :: es) X.env = (false, eval e X.env) :: starEach es X.env := by rfl) (hpl : (backTo pos (starEach es X.env)).any (·.1) = false := by rfl) :
    PE X (.Call (.Attribute (.Name "RuntimeError" p1) "__init__" p2) (e :: es) [] pos) (tRtI X.K ta) := by
  refine ⟨fun pins s σ H Q I h => ?_⟩
  refine PySem.W.methodCall_KW (ld_blt I hg hm PyProof.Rows.Boot.«RuntimeError» ?_ (by decide) (by decide)) hc
  obtain ⟨m, fr⟩ := I.fr
  refine PySem.W.method_type fr I.ok.mod.kin typRE (by decide +kernel) vV (by decide +kernel) ?_
  show wpAny _ _ (callWith pos (Value.builtin "RuntimeError.__init__") [] (backTo pos (starEach (e :: es) X.env)) []) _ _ _
  refine PyProof.Rows.callWith_method1 (thn (ha.run pos pins _ σ H _ (I.tok _) h) ?_) he hpl
  rintro us s1 ⟨vs, H1, I1, r1, a, C, ws, ev, few, T, ea, q⟩
  subst ev
  cases r1 with
  | @cons _ u0 _ ur ra rw' =>
    obtain rfl : u0 = Value.ref a := ra
    have small : ur.length ≤ sizeLine := by
      rw [← Paired.length rw', sizeLine_eq]
      omega
    exact initRt T I1 ea small fun s' J => ⟨.non, H1, J, rfl, q⟩
end
end My
set_option maxHeartbeats 4000000
/-! short words for own exceptions made as values -/
namespace My
open PySem PySem.Spec PyProof.Rows L2 Evl

theorem peImp {X : Cx} {e : Expr} {t t' : TE} (h : PE X e t) (k : ∀ σ H Q, t' σ H Q → t σ H Q) : PE X e t' := ⟨fun pins s σ H Q I q => h.run pins s σ H Q I (k σ H Q q)⟩

section
variable {K : PySem.W.Frag} {fd : FuncData} {ps : List Str}
theorem kbPos (b : Binds K fd ps []) : KBn K fd ps ps.length [] (fun us _ => us) (fun vs _ => vs) where
  to := fun s us ws inK l1 _ => by
    have q := b s us inK (by rw [List.append_nil]; exact l1)
    rw [List.append_nil] at q
    exact q
  rel := fun r _ => r
end

/-- a class whose __init__ keeps one field -/
structure Mkr (P : Program) (w : World) (K : PySem.W.Frag) (mg : Str → Option Value) (base : Heap) (C : Addr) (f : Str) : Prop where
  ex : ∃ (fI : Addr) (fd : FuncData), ExG K C ∧ PySem.W.findIn K (.ref C) "__init__" = some (some (.ref fI)) ∧ PySem.W.typeIn K (.ref fI) = some (.type "function") ∧
    FnOk P w K mg base CX0 1 fI fd ["self", f] (spOne C f) ∧ KBn K fd ["self", f] 2 [] (fun us _ => us) (fun vs _ => vs) ∧
    KBn K fd ["self", f] 1 [f] (fun us ws => us ++ ws) (fun vs zs => vs ++ zs)
/-- a class whose __init__ keeps two -/
structure Mkr2 (P : Program) (w : World) (K : PySem.W.Frag) (mg : Str → Option Value) (base : Heap) (C : Addr) (f g : Str) : Prop where
  ex : ∃ (fI : Addr) (fd : FuncData), ExG K C ∧ PySem.W.findIn K (.ref C) "__init__" = some (some (.ref fI)) ∧ PySem.W.typeIn K (.ref fI) = some (.type "function") ∧
    FnOk P w K mg base CX0 1 fI fd ["self", f, g] (spTwo C f g) ∧ KBn K fd ["self", f, g] 3 [] (fun us _ => us) (fun vs _ => vs) ∧
    KBn K fd ["self", f, g] 1 [f, g] (fun us ws => us ++ ws) (fun vs zs => vs ++ zs) ∧
    KBn K fd ["self", f, g] 1 [g, f] (fun us ws => us ++ ws.reverse) (fun vs zs => vs ++ zs.reverse)
/-- a class whose __init__ keeps none -/
structure Mkr0 (P : Program) (w : World) (K : PySem.W.Frag) (mg : Str → Option Value) (base : Heap) (C : Addr) : Prop where
  ex : ∃ (fI : Addr) (fd : FuncData), ExG K C ∧ PySem.W.findIn K (.ref C) "__init__" = some (some (.ref fI)) ∧ PySem.W.typeIn K (.ref fI) = some (.type "function") ∧
    FnOk P w K mg base CX0 1 fI fd ["self"] (spNil C) ∧ KBn K fd ["self"] 1 [] (fun us _ => us) (fun vs _ => vs)

/-- what comes of it: a new exception of C, its dict told -/
def EvX (te : TE) (σ : L2.St) (H : Hp) (C : Addr) (fs : List (Str × V)) : Prop := ∀ H1, Ex H H1 → ∀ Q : VK,
  (∀ a dx H2, H1 a = none → Ex H1 H2 → H2 a = some (exo a C (some dx)) → H2 dx = some (exd dx fs) → Q (.ref a) H2) → te σ H1 Q
def EvX0 (te : TE) (σ : L2.St) (H : Hp) (C : Addr) : Prop := ∀ H1, Ex H H1 → ∀ Q : VK, (∀ a H2, H1 a = none → Ex H1 H2 → H2 a = some (exo a C none) → Q (.ref a) H2) → te σ H1 Q

section
variable {σ : L2.St} {H : Hp} {C a : Addr} {f g : Str} {v u : V} {te tu : TE} {Q : VK} {E : XK}
theorem spOneOf (ha : H a = none) (q : ∀ dx H2, Ex H H2 → H2 a = some (exo a C (some dx)) → H2 dx = some (exd dx [(f, v)]) → Q (.ref a) H2) :
    spOne C f [.ref a, v] (upd H a (exo a C none)) (fun w H3 => w = .non ∧ Q (.ref a) H3) E := by
  refine ⟨a, v, rfl, upd_same, fun dx n ne => ⟨rfl, ?_⟩⟩
  rw [upd_upd]
  rw [upd_ne ne] at n
  have n1 : upd H a (exo a C (some dx)) dx = none := by
    rw [upd_ne ne]
    exact n
  exact q dx _ ((Ex.new ha).trans (Ex.new n1)) (by rw [upd_ne (Ne.symm ne), upd_same]) upd_same
theorem spTwoOf (ha : H a = none) (q : ∀ dx H2, Ex H H2 → H2 a = some (exo a C (some dx)) → H2 dx = some (exd dx [(g, u), (f, v)]) → Q (.ref a) H2) :
    spTwo C f g [.ref a, v, u] (upd H a (exo a C none)) (fun w H3 => w = .non ∧ Q (.ref a) H3) E := by
  refine ⟨a, v, u, rfl, upd_same, fun dx n ne => ⟨rfl, ?_⟩⟩
  rw [upd_upd, upd_upd]
  rw [upd_ne ne] at n
  have n1 : upd H a (exo a C (some dx)) dx = none := by
    rw [upd_ne ne]
    exact n
  exact q dx _ ((Ex.new ha).trans (Ex.new n1)) (by rw [upd_ne (Ne.symm ne), upd_same]) upd_same
theorem ex_one (h : Ev te σ H v) : EvX (tMadeK C 1 0 (spOne C f) (fun vs _ => vs) (tCons te tNil) tNil) σ H C [(f, v)] := fun H1 e Q q =>
  h H1 e _ fun H2 e2 => ⟨rfl, rfl, by decide, fun a ha => spOneOf ha fun dx H3 e3 h1 h2 => q a dx H3 (fresh_back e2 ha) (e2.trans e3) h1 h2⟩
theorem ex_oneK (h : Ev te σ H v) : EvX (tMadeK C 0 1 (spOne C f) (fun vs zs => vs ++ zs) tNil (tCons te tNil)) σ H C [(f, v)] := fun H1 e Q q =>
  h H1 e _ fun H2 e2 => ⟨rfl, rfl, by decide, fun a ha => spOneOf ha fun dx H3 e3 h1 h2 => q a dx H3 (fresh_back e2 ha) (e2.trans e3) h1 h2⟩
theorem ex_two (h : Ev te σ H v) (h' : Ev tu σ H u) : EvX (tMadeK C 2 0 (spTwo C f g) (fun vs _ => vs) (tCons te (tCons tu tNil)) tNil) σ H C [(g, u), (f, v)] := fun H1 e Q q =>
  h H1 e _ fun H2 e2 => h' H2 (e.trans e2) _ fun H3 e3 => ⟨rfl, rfl, by decide, fun a ha => spTwoOf ha fun dx H4 e4 h1 h2 => q a dx H4 (fresh_back (e2.trans e3) ha) ((e2.trans e3).trans e4) h1 h2⟩
theorem ex_twoK (h : Ev te σ H v) (h' : Ev tu σ H u) : EvX (tMadeK C 0 2 (spTwo C f g) (fun vs zs => vs ++ zs) tNil (tCons te (tCons tu tNil))) σ H C [(g, u), (f, v)] := fun H1 e Q q =>
  h H1 e _ fun H2 e2 => h' H2 (e.trans e2) _ fun H3 e3 => ⟨rfl, rfl, by decide, fun a ha => spTwoOf ha fun dx H4 e4 h1 h2 => q a dx H4 (fresh_back (e2.trans e3) ha) ((e2.trans e3).trans e4) h1 h2⟩
theorem ex_twoR (h : Ev te σ H v) (h' : Ev tu σ H u) : EvX (tMadeK C 0 2 (spTwo C f g) (fun vs zs => vs ++ zs.reverse) tNil (tCons tu (tCons te tNil))) σ H C [(g, u), (f, v)] := fun H1 e Q q =>
  h' H1 e _ fun H2 e2 => h H2 (e.trans e2) _ fun H3 e3 => ⟨rfl, rfl, by decide, fun a ha => spTwoOf ha fun dx H4 e4 h1 h2 => q a dx H4 (fresh_back (e2.trans e3) ha) ((e2.trans e3).trans e4) h1 h2⟩
theorem ex_nil : EvX0 (tMadeK C 0 0 (spNil C) (fun vs _ => vs) tNil tNil) σ H C := fun H1 e Q q =>
  ⟨rfl, rfl, by decide, fun a ha => ⟨a, rfl, upd_same, rfl, q a _ ha (Ex.new ha) upd_same⟩⟩
end

section
variable {X : Cx} {C : Addr} {x f g : Str} {e d : Expr} {te tu : TE} {p pos kp kq : Pos}
theorem passN : Passes CX0 X (fun _ _ _ => False) := fun _ _ _ _ _ _ _ z => z.elim
/-- C(e) -/
theorem pe_mk1 (M : Mkr X.prog X.w X.K X.mg X.base C f) (hr : Room 2 X.A) (hg : Gl X x) (hm : X.mg x = some (.ref C)) (he : PE X e te) (hdb : (x == ("__debug__" : Str)) = false := by decide)
    (hs : starEach [e] X.env = (false, eval e X.env) :: starEach [] X.env := by rfl) :
    PE X (.Call (.Name x p) [e] [] pos) (tMadeK C 1 0 (spOne C f) (fun vs _ => vs) (tCons te tNil) tNil) := by
  obtain ⟨fI, fd, T, iC, tI, F, b0, b1⟩ := M.ex
  refine pe_madeK (n := 1) (ks := []) T iC tI F hr hg hm b0 passN (pa_cons he pa_nil hs) pk_nil rfl rfl hdb hs ?_
  rw [hs]
  rfl
/-- C(f = e) -/
theorem pe_mk1K (M : Mkr X.prog X.w X.K X.mg X.base C f) (hr : Room 2 X.A) (hg : Gl X x) (hm : X.mg x = some (.ref C)) (he : PE X e te) (hdb : (x == ("__debug__" : Str)) = false := by decide) :
    PE X (.Call (.Name x p) [] [⟨some f, e, kp⟩] pos) (tMadeK C 0 1 (spOne C f) (fun vs zs => vs ++ zs) tNil (tCons te tNil)) := by
  obtain ⟨fI, fd, T, iC, tI, F, b0, b1⟩ := M.ex
  exact pe_madeK0 (ks := [f]) T iC tI F hr hg hm b1 passN (pk_cons he pk_nil) rfl rfl hdb rfl
/-- C(e, d) -/
theorem pe_mk2 (M : Mkr2 X.prog X.w X.K X.mg X.base C f g) (hr : Room 2 X.A) (hg : Gl X x) (hm : X.mg x = some (.ref C)) (he : PE X e te) (hd : PE X d tu) (hdb : (x == ("__debug__" : Str)) = false := by decide)
    (hs : starEach [e, d] X.env = (false, eval e X.env) :: starEach [d] X.env := by rfl) (hs2 : starEach [d] X.env = (false, eval d X.env) :: starEach [] X.env := by rfl) :
    PE X (.Call (.Name x p) [e, d] [] pos) (tMadeK C 2 0 (spTwo C f g) (fun vs _ => vs) (tCons te (tCons tu tNil)) tNil) := by
  obtain ⟨fI, fd, T, iC, tI, F, b0, b1, b2⟩ := M.ex
  refine pe_madeK (n := 2) (ks := []) T iC tI F hr hg hm b0 passN (pa_cons he (pa_cons hd pa_nil hs2) hs) pk_nil rfl rfl hdb hs ?_
  rw [hs, hs2]
  rfl
/-- C(f = e, g = d) -/
theorem pe_mk2K (M : Mkr2 X.prog X.w X.K X.mg X.base C f g) (hr : Room 2 X.A) (hg : Gl X x) (hm : X.mg x = some (.ref C)) (he : PE X e te) (hd : PE X d tu) (hdb : (x == ("__debug__" : Str)) = false := by decide) :
    PE X (.Call (.Name x p) [] [⟨some f, e, kp⟩, ⟨some g, d, kq⟩] pos) (tMadeK C 0 2 (spTwo C f g) (fun vs zs => vs ++ zs) tNil (tCons te (tCons tu tNil))) := by
  obtain ⟨fI, fd, T, iC, tI, F, b0, b1, b2⟩ := M.ex
  exact pe_madeK0 (ks := [f, g]) T iC tI F hr hg hm b1 passN (pk_cons he (pk_cons hd pk_nil)) rfl rfl hdb rfl
/-- C(g = d, f = e) -/
theorem pe_mk2R (M : Mkr2 X.prog X.w X.K X.mg X.base C f g) (hr : Room 2 X.A) (hg : Gl X x) (hm : X.mg x = some (.ref C)) (he : PE X e te) (hd : PE X d tu) (hdb : (x == ("__debug__" : Str)) = false := by decide) :
    PE X (.Call (.Name x p) [] [⟨some g, d, kq⟩, ⟨some f, e, kp⟩] pos) (tMadeK C 0 2 (spTwo C f g) (fun vs zs => vs ++ zs.reverse) tNil (tCons tu (tCons te tNil))) := by
  obtain ⟨fI, fd, T, iC, tI, F, b0, b1, b2⟩ := M.ex
  exact pe_madeK0 (ks := [g, f]) T iC tI F hr hg hm b2 passN (pk_cons hd (pk_cons he pk_nil)) rfl rfl hdb rfl
/-- C() -/
theorem pe_mk0 (M : Mkr0 X.prog X.w X.K X.mg X.base C) (hr : Room 2 X.A) (hg : Gl X x) (hm : X.mg x = some (.ref C)) (hdb : (x == ("__debug__" : Str)) = false := by decide) :
    PE X (.Call (.Name x p) [] [] pos) (tMadeK C 0 0 (spNil C) (fun vs _ => vs) tNil tNil) := by
  obtain ⟨fI, fd, T, iC, tI, F, b0⟩ := M.ex
  exact pe_madeK0 (ks := []) T iC tI F hr hg hm b0 passN pk_nil rfl rfl hdb rfl
end
end My
set_option maxHeartbeats 4000000
/-! what repr, attributes, comparisons and enumerate come to, in the words of Evl -/
namespace My
open PySem PySem.Spec PyProof.Rows L2 Evl

/-- v stands for d, and d can be shown in short -/
structure Gd (K : PySem.W.Frag) (H : Hp) (v : V) (d : PyData) : Prop where
  dd : Dd K H v d
  sh : d.showable = true
  sz : d.shown.length ≤ 2000
  dp : d.depth ≤ 10
  nd : d.hasDict = false ∨ d = .dict []
section
variable {K : PySem.W.Frag} {H H' : Hp} {σ : L2.St} {v x y : V} {d : PyData} {te ta tb : TE}
theorem Gd.ext (g : Gd K H v d) (e : Ex H H') : Gd K H' v d := ⟨Dd.ext e d v g.dd, g.sh, g.sz, g.dp, g.nd⟩
theorem ev_repr (h : Ev te σ H v) (g : Gd K H v d) : Ev (tCB (rRepr K) (tCons te tNil)) σ H (.str d.shown) := fun H1 e Q q =>
  h H1 e _ fun H2 e2 => ⟨v, d, rfl, .inr ⟨(g.ext (e.trans e2)).dd, g.nd⟩, g.sh, Nat.le_trans g.sz (by decide), Nat.le_trans g.dp (by decide), q H2 e2⟩
/-- repr of a list that is written there -/
theorem ev_reprL {ta : TA} {vs : List V} {ds : List PyData} (h : EvA ta σ H vs) (hd : Dds K H vs ds) (hz : vs.length ≤ 1000) (sh : (PyData.list ds).showable = true) (sz : (PyData.list ds).shown.length ≤ 10000) (dp : (PyData.list ds).depth ≤ 30) (nd : (PyData.list ds).hasDict = false) :
    Ev (tCB (rRepr K) (tCons (tLstB ta) tNil)) σ H (.str (PyData.list ds).shown) := fun H1 e Q q =>
  h H1 e _ fun H2 e2 => ⟨sz_of (by omega), fun p hp np => by
    have eN : Ex H2 (upd H2 p (.lst vs)) := Ex.new hp
    exact ⟨.ref p, .list ds, rfl, .inr ⟨.lst (SqL.of upd_same) (Dds.ext ((e.trans e2).trans eN) ds vs hd), .inl nd⟩, sh, Nat.le_trans sz (by decide), Nat.le_trans dp (by decide), q _ (e2.trans eN)⟩⟩
theorem ev_exAt {a C dx : Addr} {f : Str} {fs : List (Str × V)} (h : Ev te σ H (.ref a)) (R : ExR K C) (no : PySem.W.findIn K (.ref C) f = some none)
    (h1 : H a = some (exo a C (some dx))) (h2 : H dx = some (exd dx fs)) (el : fs.lookup f = some v) : Ev (tExAt K f te) σ H v := fun H1 e Q q =>
  h H1 e _ fun H2 e2 => ⟨a, C, dx, fs, v, rfl, R, no, e2 _ _ (e _ _ h1), e2 _ _ (e _ _ h2), el, q H2 e2⟩
theorem rv_neSame (h1 : ∀ H', Ex H H' → Dp K H' x d) (h2 : ∀ H', Ex H H' → Dp K H' y d) (s : SeqAt.shaped d = true) : RV (rNeD K) x y H (.bl false) := fun H1 e Q q =>
  ⟨d, d, h1 H1 e, h2 H1 e, s, s, by
    rw [PySem.SeqAt.eqv_refl d (PySem.SeqAt.canLay_of_shaped s)]
    exact q H1 (Ex.refl H1)⟩
theorem rv_eqSame (h1 : ∀ H', Ex H H' → Dp K H' x d) (h2 : ∀ H', Ex H H' → Dp K H' y d) (s : SeqAt.shaped d = true) : RV (rEqD K) x y H (.bl true) := fun H1 e Q q =>
  ⟨d, d, h1 H1 e, h2 H1 e, s, s, by
    rw [PySem.SeqAt.eqv_refl d (PySem.SeqAt.canLay_of_shaped s)]
    exact q H1 (Ex.refl H1)⟩
theorem dpBools : ∀ (bs : List Bool), DpAll K H (bs.map V.bl) (bs.map PyData.bool)
  | [] => .nil
  | b :: r => .cons (.bl b) (dpBools r)
theorem dpInts : ∀ (ns : List Int), DpAll K H (ns.map V.int) (ns.map PyData.int)
  | [] => .nil
  | b :: r => .cons (.int b) (dpInts r)
theorem dp_bools {p : Addr} {bs : List Bool} (h : H p = some (.lst (bs.map V.bl))) : Dp K H (.ref p) (.list (bs.map PyData.bool)) := .lst (SqL.of h) (dpBools bs)
theorem dp_ints {p : Addr} {ns : List Int} (h : H p = some (.lst (ns.map V.int))) : Dp K H (.ref p) (.list (ns.map PyData.int)) := .lst (SqL.of h) (dpInts ns)
theorem ev_min2 {i j : Int} (ha : Ev ta σ H (.int i)) (hb : Ev tb σ H (.int j)) : Ev (tCB (fun xs H Q => ∃ i j, xs = [.int i, .int j] ∧ Q (.int (if j < i then j else i)) H) (tCons ta (tCons tb tNil))) σ H (.int (if j < i then j else i)) := fun H1 e Q q =>
  ha H1 e _ fun H2 e2 => hb H2 (e.trans e2) _ fun H3 e3 => ⟨i, j, rfl, q H3 (e2.trans e3)⟩
end

/-- for i, x in enumerate(a list that stands) -/
theorem for_enum {K : PySem.W.Frag} {a : Addr} {xs : List V} {g : TG} {tb : TS} {D : Ends} {σ : L2.St} {H : Hp} (Pv : Nat → L2.St → Hp → Prop) (h0 : Pv 0 σ H) (hl : ∀ i σ H, i ≤ xs.length → Pv i σ H → SqL K H a xs)
    (hs : ∀ i x σ H T, xs[i]? = some x → Pv i σ H → H T = none → g (.ref T) σ (upd H T (.tup [.int (i : Nat), x])) fun σ2 H2 => tb { D with nx := Pv (i + 1), ct := Pv (i + 1), bk := D.nx } σ2 H2) (hd : ∀ σ H, Pv xs.length σ H → D.nx σ H) :
    ∃ W : Nat → Nat → L2.St → Hp → Prop, (∃ m, W 0 m σ H) ∧ ∀ i m σ H, W i m σ H →
      ((Ite K a).stop i H ∧ D.nx σ H) ∨ ((Ite K a).go i H ∧ ∃ N : L2.St → Hp → Prop, (∀ σ' H', N σ' H' → ∃ m', m' < m ∧ W (i + 1) m' σ' H') ∧
        ∀ x H', (Ite K a).yld i H x H' → g x σ H' fun σ2 H2 => tb { D with nx := N, ct := N, bk := D.nx } σ2 H2) := by
  refine ⟨fun i m σ H => m = xs.length - i ∧ i ≤ xs.length ∧ Pv i σ H, ⟨xs.length, by simp, Nat.zero_le _, h0⟩, ?_⟩
  rintro i m σ H ⟨rfl, hi, p⟩
  have q := hl i σ H hi p
  by_cases lt : i < xs.length
  · refine .inr ⟨⟨xs, xs[i], q, by simp [lt]⟩, Pv (i + 1), fun σ' H' p' => ⟨xs.length - (i + 1), by omega, rfl, lt, p'⟩, ?_⟩
    rintro x H' ⟨T, y, rfl, hT, rfl, hy⟩
    exact hs i y σ H T (hy xs q) p hT
  · have e : i = xs.length := by omega
    subst e
    exact .inl ⟨⟨xs, q, Nat.le_refl _⟩, hd σ H p⟩
end My
namespace My
open PySem PySem.Spec PyProof.Rows L2 Evl
/-- a def of the module, its promise, as a constant -/
structure Df (P : Program) (w : World) (K : PySem.W.Frag) (mg : Str → Option Value) (base : Heap) (x : Str) (ps : List Str) (k : Nat) (sp : Sp) : Prop where
  ex : ∃ (f : Addr) (fd : FuncData), mg x = some (.ref f) ∧ PySem.W.keepIn K (.ref f) = true ∧ FnOk P w K mg base CX0 k f fd ps sp ∧ Binds K fd ps []
theorem pe_df {X : Cx} {x : Str} {ps : List Str} {k : Nat} {sp : Sp} {e : Expr} {es : List Expr} {t : TA} {p pos : Pos} (D : Df X.prog X.w X.K X.mg X.base x ps k sp) (hr : Room k X.A) (hg : Gl X x) (ha : PA X (e :: es) t)
    (hdb : (x == ("__debug__" : Str)) = false := by decide) (he : starEach (e :: es) X.env = (false, eval e X.env) :: starEach es X.env := by rfl) (hpl : (backTo pos (starEach es X.env)).any (·.1) = false := by rfl) :
    PE X (.Call (.Name x p) (e :: es) [] pos) (tCall sp [] E0 t) := by
  obtain ⟨f, fd, hm, hk, F, b⟩ := D.ex
  exact pe_call F hr hg hm hk b .nil pass0 ha hdb he hpl
section
variable {σ : L2.St} {H : Hp} {ta tb : TE} {xs : List V}
theorem el_rep {k : Int} (ha : EvL ta σ H xs) (hb : ∀ H1, Ex H H1 → Ev tb σ H1 (.int k)) (h : -(2 ^ 63) ≤ k ∧ k < 2 ^ 63) (z : xs.length * k.toNat ≤ 100000) : EvL (tOp rRep ta tb) σ H (List.replicate k.toNat xs).flatten := fun H1 e Q q =>
  ha H1 e _ fun l H2 _ e2 h2 => hb H2 (e.trans e2) H2 (Ex.refl H2) _ fun H3 e3 =>
    ⟨l, k, xs, rfl, rfl, e3 l _ h2, h.1, h.2, sz_of z, fun r hr => q r _ (fresh_back (e2.trans e3) hr) ((e2.trans e3).trans (Ex.new hr)) upd_same⟩
end
end My
namespace My
open PySem PySem.Spec PyProof.Rows L2 Evl
/-- a row of new exceptions of one class, all with the same fields -/
def EvXr (C : Addr) (ta : TA) (σ : L2.St) (H : Hp) (fs : List (Str × V)) (n : Nat) : Prop := ∀ H1, Ex H H1 → ∀ Q : List V → Hp → Prop,
  (∀ (as : List Addr) (H2 : Hp), Ex H1 H2 → as.length = n → (∀ (m : Nat) (a : Addr), as[m]? = some a → ∃ dx, H2 a = some (exo a C (some dx)) ∧ H2 dx = some (exd dx fs)) → Q (as.map V.ref) H2) → ta σ H1 Q
section
variable {C : Addr} {te : TE} {ta : TA} {σ : L2.St} {H : Hp} {fs : List (Str × V)} {n : Nat} {K : PySem.W.Frag} {tu tz : TS} {D : Ends} {j : Nat}
theorem exr_nil : EvXr C tNil σ H fs 0 := fun H1 e Q q => q [] H1 (Ex.refl H1) rfl fun m a h => by simp at h
theorem exr_cons (h : EvX te σ H C fs) (hr : EvXr C ta σ H fs n) : EvXr C (tCons te ta) σ H fs (n + 1) := fun H1 e Q q =>
  h H1 e _ fun a dx H2 _ e2 h1 h2 => hr H2 (e.trans e2) _ fun bs H3 e3 hl x => q (a :: bs) H3 (e2.trans e3) (by rw [List.length_cons, hl]) fun k b hb => by
    cases k with
    | zero =>
      have z : a = b := by simpa using hb
      subst z
      exact ⟨dx, e3 _ _ h1, e3 _ _ h2⟩
    | succ k => exact x k b (by simpa using hb)
/-- for e in [C(..), C(..)] -/
theorem s_forX (h : EvXr C ta σ H fs n) (hn : n ≤ 1000) (S : L2.St → Prop) (s0 : S σ)
    (hs : ∀ a dx σ' H', Ex H H' → H' a = some (exo a C (some dx)) → H' dx = some (exd dx fs) → S σ' → ∀ N : L2.St → Hp → Prop, (∀ σ2 H2, Ex H' H2 → S σ2 → N σ2 H2) →
      tu { D with nx := N, ct := N, bk := D.nx } (σ'.set j (some (.ref a))) H')
    (hd : ∀ σ' H', Ex H H' → S σ' → D.nx σ' H') : tFor (iList K (tLst ta)) (gName j) tu D σ H :=
  h H (Ex.refl H) _ fun as H1 e1 hl x => ⟨by rw [List.length_map, hl]; exact sz_of (by omega), fun L nL => ⟨L, rfl, ⟨_, SqL.of upd_same⟩,
    for_list (K := K) (a := L) (xs := as.map V.ref) (fun _ σ' H' => Ex (upd H1 L (.lst (as.map V.ref))) H' ∧ S σ') ⟨Ex.refl _, s0⟩ (fun _ σ' H' _ q => ex_l q.1 (SqL.of upd_same))
      (fun m v σ' H' hv q => by
        obtain ⟨a, ha, rfl⟩ : ∃ a, as[m]? = some a ∧ v = .ref a := by
          rw [List.getElem?_map] at hv
          cases z : as[m]? with
          | none =>
            rw [z] at hv
            cases hv
          | some u =>
            rw [z] at hv
            exact ⟨u, rfl, (Option.some.inj hv).symm⟩
        obtain ⟨dx, h1, h2⟩ := x m a ha
        have eN : Ex H1 (upd H1 L (.lst (as.map V.ref))) := Ex.new nL
        exact hs a dx σ' H' ((e1.trans eN).trans q.1) (q.1 _ _ (eN _ _ h1)) (q.1 _ _ (eN _ _ h2)) q.2 _ fun σ2 H2 e2 s2 => ⟨q.1.trans e2, s2⟩)
      fun σ' H' q => hd σ' H' ((e1.trans (Ex.new nL)).trans q.1) q.2⟩⟩
theorem q_forX (h : EvXr C ta σ H fs n) (hn : n ≤ 1000) (S : L2.St → Prop) (s0 : S σ)
    (hs : ∀ a dx σ' H', Ex H H' → H' a = some (exo a C (some dx)) → H' dx = some (exd dx fs) → S σ' → ∀ N : L2.St → Hp → Prop, (∀ σ2 H2, Ex H' H2 → S σ2 → N σ2 H2) →
      tu { D with nx := N, ct := N, bk := tz D } (σ'.set j (some (.ref a))) H')
    (hd : ∀ σ' H', Ex H H' → S σ' → tz D σ' H') : tSeq (tFor (iList K (tLst ta)) (gName j) tu) tz D σ H := s_forX (D := { D with nx := tz D }) h hn S s0 hs hd
end
end My
set_option maxHeartbeats 4000000
/-! evaluation told in data: which datum a value stands for, not where it lies -/
namespace My
open PySem PySem.Spec PyProof.Rows L2 Evl
/-- the class of a datum -/
def tyD : PyData → String
  | .none => "NoneType"
  | .bool _ => "bool"
  | .int _ => "int"
  | .str _ => "str"
  | .list _ => "list"
  | .tuple _ => "tuple"
  | .dict _ => "dict"
theorem Dd.ty {K : PySem.W.Frag} {H : Hp} {v : V} {d : PyData} (h : Dd K H v d) : TyX K H v (.type (tyD d)) := by
  cases h with
  | non => exact .base .non
  | bl b => exact .base (.bl b)
  | int i => exact .base (.int i)
  | str x => exact .base (.str x)
  | lst hs ha =>
    rcases hs with (h | ⟨o, h⟩) | ⟨o, its, n, hk, hc, _⟩
    · exact .base (.lst h)
    · exact .base (.frz h)
    · exact .kList hk hc
  | tup hs ha =>
    rcases hs with (h | ⟨o, h⟩) | ⟨o, its, n, hk, hc, _⟩
    · exact .base (.tup h)
    · exact .fTuple h
    · exact .kTuple hk hc
  | dct h => exact .base (.dK h)
theorem Dds.len {K : PySem.W.Frag} {H : Hp} : ∀ {vs : List V} {ds : List PyData}, Dds K H vs ds → vs.length = ds.length
  | _, _, .nil => rfl
  | _, _, .cons _ t => by rw [List.length_cons, List.length_cons, t.len]
theorem Dds.get {K : PySem.W.Frag} {H : Hp} : ∀ {vs : List V} {ds : List PyData}, Dds K H vs ds → ∀ {i : Nat} {v : V}, vs[i]? = some v → ∃ d, ds[i]? = some d ∧ Dd K H v d
  | _, _, .nil, i, v, h => by simp at h
  | _, _, .cons h t, 0, v, e => by
    simp at e
    subst e
    exact ⟨_, rfl, h⟩
  | _, _, .cons h t, i + 1, v, e => by
    simp at e
    obtain ⟨d, e1, e2⟩ := t.get e
    exact ⟨d, by simpa using e1, e2⟩
theorem Dds.at {K : PySem.W.Frag} {H : Hp} : ∀ {vs : List V} {ds : List PyData}, Dds K H vs ds → ∀ {i : Nat} {d : PyData}, ds[i]? = some d → ∃ v, vs[i]? = some v ∧ Dd K H v d
  | _, _, .nil, i, d, h => by simp at h
  | _, _, .cons h t, 0, d, e => by
    simp at e
    subst e
    exact ⟨_, rfl, h⟩
  | _, _, .cons h t, i + 1, d, e => by
    simp at e
    obtain ⟨v, e1, e2⟩ := t.at e
    exact ⟨v, by simpa using e1, e2⟩
theorem Dds.app {K : PySem.W.Frag} {H : Hp} : ∀ {vs ws : List V} {ds es : List PyData}, Dds K H vs ds → Dds K H ws es → Dds K H (vs ++ ws) (ds ++ es)
  | _, _, _, _, .nil, t => t
  | _, _, _, _, .cons h r, t => .cons h (Dds.app r t)
theorem Dds.strs {K : PySem.W.Frag} {H : Hp} : ∀ (ys : List Str), Dds K H (ys.map V.str) (ys.map PyData.str)
  | [] => .nil
  | y :: ys => .cons (.str y) (Dds.strs ys)
theorem Dds.bls {K : PySem.W.Frag} {H : Hp} : ∀ {vs : List V} {bs : List Bool}, Dds K H vs (bs.map PyData.bool) → vs = bs.map V.bl
  | _, [], .nil => rfl
  | _, b :: bs, .cons h t => by
    cases h
    rw [List.map_cons, t.bls]
theorem Dds.txts {K : PySem.W.Frag} {H : Hp} : ∀ {vs : List V} {ys : List Str}, Dds K H vs (ys.map PyData.str) → vs = ys.map V.str
  | _, [], .nil => rfl
  | _, y :: ys, .cons h t => by
    cases h
    rw [List.map_cons, t.txts]

mutual
/-- no list, no dict within -/
def noList : PyData → Bool
  | .none => true
  | .bool _ => true
  | .int _ => true
  | .str _ => true
  | .tuple ds => noLists ds
  | .list _ => false
  | .dict _ => false
def noLists : List PyData → Bool
  | [] => true
  | d :: ds => noList d && noLists ds
end
mutual
/-- such a datum does not hang on what a list holds -/
theorem Dd.upd {K : PySem.W.Frag} {H : Hp} {a : Addr} {xs : List V} {o : HO} (h : H a = some (.lst xs)) : ∀ (d : PyData) (v : V), noList d = true → Dd K H v d → Dd K (L2.upd H a o) v d
  | .none, _, _, g => by
    cases g
    exact .non
  | .bool b, _, _, g => by
    cases g
    exact .bl b
  | .int i, _, _, g => by
    cases g
    exact .int i
  | .str x, _, _, g => by
    cases g
    exact .str x
  | .tuple ds, _, n, g => by
    cases g with
    | @tup b ys _ hs ha =>
      refine .tup ?_ (Dds.upd h ds _ n ha)
      have ne : ∀ {u : HO}, H b = some u → (∀ zs, u ≠ .lst zs) → L2.upd H a o b = some u := fun {u} hb nz => by
        rw [upd_ne (fun z => ?_)]
        · exact hb
        · rw [z, h] at hb
          exact nz xs (Option.some.inj hb).symm
      rcases hs with (hb | ⟨ob, hb⟩) | hb
      · exact .inl (.inl (ne hb (fun _ z => nomatch z)))
      · exact .inl (.inr ⟨ob, ne hb (fun _ z => nomatch z)⟩)
      · exact .inr hb
  | .list _, _, n, _ => by cases n
  | .dict _, _, n, _ => by cases n
theorem Dds.upd {K : PySem.W.Frag} {H : Hp} {a : Addr} {xs : List V} {o : HO} (h : H a = some (.lst xs)) : ∀ (ds : List PyData) (vs : List V), noLists ds = true → Dds K H vs ds → Dds K (L2.upd H a o) vs ds
  | [], _, _, g => by
    cases g
    exact .nil
  | d :: ds, _, n, g => by
    cases g with
    | cons g1 g2 =>
      have n2 : (noList d && noLists ds) = true := n
      rw [Bool.and_eq_true] at n2
      exact .cons (Dd.upd h d _ n2.1 g1) (Dds.upd h ds _ n2.2 g2)
end
theorem noLists_of : ∀ {ds : List PyData}, (∀ d ∈ ds, noList d = true) → noLists ds = true
  | [], _ => rfl
  | d :: ds, h => by
    show (noList d && noLists ds) = true
    rw [h d (List.mem_cons_self ..), noLists_of fun d' h' => h d' (List.mem_cons_of_mem _ h')] <;> rfl

def EvD (K : PySem.W.Frag) (te : TE) (σ : L2.St) (H : Hp) (d : PyData) : Prop := ∀ H1, Ex H H1 → ∀ Q : VK, (∀ v H2, Ex H1 H2 → Dd K H2 v d → Q v H2) → te σ H1 Q
def EvDs (K : PySem.W.Frag) (ta : TA) (σ : L2.St) (H : Hp) (ds : List PyData) : Prop := ∀ H1, Ex H H1 → ∀ Q : List V → Hp → Prop, (∀ vs H2, Ex H1 H2 → Dds K H2 vs ds → Q vs H2) → ta σ H1 Q
/-- a new list of these data -/
def EvDL (K : PySem.W.Frag) (te : TE) (σ : L2.St) (H : Hp) (ds : List PyData) : Prop := ∀ H1, Ex H H1 → ∀ Q : VK, (∀ p xs H2, H1 p = none → Ex H1 H2 → H2 p = some (.lst xs) → Dds K H2 xs ds → Q (.ref p) H2) → te σ H1 Q
/-- a def that answers a datum to data -/
def SpD (K : PySem.W.Frag) (sp : Sp) (ds : List PyData) (r : PyData) : Prop := ∀ vs H, Dds K H vs ds → ∀ Q : VK, (∀ v H', Ex H H' → Dd K H' v r → Q v H') → ∀ E : XK, sp vs H Q E
def spD (K : PySem.W.Frag) (ok : List PyData → Prop) (F : List PyData → PyData) : Sp := fun vs H Q _ => ∃ ds, Dds K H vs ds ∧ ok ds ∧ ∀ v H', Ex H H' → Dd K H' v (F ds) → Q v H'
theorem spD_ok {K : PySem.W.Frag} {ok : List PyData → Prop} {F : List PyData → PyData} {ds : List PyData} {r : PyData} (h : ok ds) (e : F ds = r) : SpD K (spD K ok F) ds r := fun vs H dd Q q E => ⟨ds, dd, h, by rw [e]; exact q⟩

section
variable {K : PySem.W.Frag} {H H' : Hp} {σ : L2.St} {v x y : V} {d : PyData} {ds : List PyData} {te ta tb : TE} {tas : TA} {i : Nat} {D : Ends}
theorem EvD.mono (e : Ex H H') (h : EvD K te σ H d) : EvD K te σ H' d := fun H1 a Q q => h H1 (e.trans a) Q q
theorem ed_of (h : Ev te σ H v) (g : Dd K H v d) : EvD K te σ H d := fun H1 e Q q => h H1 e Q fun H2 e2 => q v H2 e2 (Dd.ext (e.trans e2) d v g)
theorem ed_var (h : σ[i]? = some (some v)) (g : Dd K H v d) : EvD K (tVar i) σ H d := ed_of (ev_var h) g
theorem ed_str {z : Str} (h : Ev te σ H (.str z)) : EvD K te σ H (.str z) := ed_of h (.str z)
theorem ed_int {z : Int} (h : Ev te σ H (.int z)) : EvD K te σ H (.int z) := ed_of h (.int z)
theorem ed_bl {z : Bool} (h : Ev te σ H (.bl z)) : EvD K te σ H (.bool z) := ed_of h (.bl z)
theorem ed_non (h : Ev te σ H .non) : EvD K te σ H .none := ed_of h .non
theorem EvD.str {z : Str} (h : EvD K te σ H (.str z)) : Ev te σ H (.str z) := fun H1 e Q q => h H1 e Q fun v H2 e2 dd => by
  cases dd
  exact q H2 e2
theorem EvD.int {z : Int} (h : EvD K te σ H (.int z)) : Ev te σ H (.int z) := fun H1 e Q q => h H1 e Q fun v H2 e2 dd => by
  cases dd
  exact q H2 e2
theorem EvD.bl {z : Bool} (h : EvD K te σ H (.bool z)) : Ev te σ H (.bl z) := fun H1 e Q q => h H1 e Q fun v H2 e2 dd => by
  cases dd
  exact q H2 e2
theorem EvD.non (h : EvD K te σ H .none) : Ev te σ H .non := fun H1 e Q q => h H1 e Q fun v H2 e2 dd => by
  cases dd
  exact q H2 e2
theorem ed_is {d' : PyData} (h : EvD K te σ H d) (e : d = d') : EvD K te σ H d' := by
  subst e
  exact h
theorem eds_nil : EvDs K tNil σ H [] := fun H1 _ _ q => q [] H1 (Ex.refl H1) .nil
theorem eds_cons {tr : TA} (h : EvD K ta σ H d) (hr : EvDs K tr σ H ds) : EvDs K (tCons ta tr) σ H (d :: ds) := fun H1 e Q q =>
  h H1 e _ fun v H2 e2 g => hr H2 (e.trans e2) _ fun vs H3 e3 gs => q (v :: vs) H3 (e2.trans e3) (.cons (Dd.ext e3 _ _ g) gs)
theorem ed_tup (h : EvDs K tas σ H ds) (hl : ds.length ≤ 100000) : EvD K (tTup tas) σ H (.tuple ds) := fun H1 e Q q =>
  h H1 e _ fun vs H2 e2 g => ⟨sz_of (by rw [g.len]; exact hl), fun p hp => q (.ref p) _ (e2.trans (Ex.new hp)) (.tup (st_of upd_same) (Dds.ext (Ex.new hp) _ _ g))⟩
theorem ed_lst (h : EvDs K tas σ H ds) (hl : ds.length ≤ 100000) : EvD K (tLstB tas) σ H (.list ds) := fun H1 e Q q =>
  h H1 e _ fun vs H2 e2 g => ⟨sz_of (by rw [g.len]; exact hl), fun p hp hs => q (.ref p) _ (e2.trans (Ex.new hp)) (.lst (sq_of upd_same) (Dds.ext (Ex.new hp) _ _ g))⟩
theorem edl_lst (h : EvDs K tas σ H ds) (hl : ds.length ≤ 100000) : EvDL K (tLst tas) σ H ds := fun H1 e Q q =>
  h H1 e _ fun vs H2 e2 g => ⟨sz_of (by rw [g.len]; exact hl), fun p hp => q p vs _ (fresh_back e2 hp) (e2.trans (Ex.new hp)) upd_same (Dds.ext (Ex.new hp) _ _ g)⟩
theorem ed_call {sp : Sp} {r : PyData} {E : XK} (h : EvDs K tas σ H ds) (hs : SpD K sp ds r) : EvD K (tCall sp [] E tas) σ H r := fun H1 e Q q =>
  h H1 e _ fun vs H2 e2 g => hs (vs ++ []) H2 (by rw [List.append_nil]; exact g) Q (fun v H3 e3 g3 => q v H3 (e2.trans e3) g3) E
/-- isinstance(e, n) -/
theorem ed_isi {n : String} {b : Bool} (h : EvD K te σ H d) (e : kitB (tyD d) n = some b) : Ev (tCB (rIsi K) (tCons te (tCons (tC (.ty n)) tNil))) σ H (.bl b) := fun H1 e1 Q q =>
  h H1 e1 _ fun v H2 e2 g => ⟨v, .ty n, .type (tyD d), .type n, b, rfl, .ty n, g.ty, kit_ty e, q H2 e2⟩
/-- len(e) of a tuple or a text -/
def rLenD (K : PySem.W.Frag) : List V → Hp → VK → Prop := fun xs H Q => ∃ x n, xs = [x] ∧ LenV K x H n ∧ Q (.int n) H
theorem ed_lenT (h : EvD K te σ H (.tuple ds)) : Ev (tCB (rLenD K) (tCons te tNil)) σ H (.int (ds.length : Int)) := fun H1 e1 Q q =>
  h H1 e1 _ fun v H2 e2 g => by
    cases g with
    | tup hs ha => exact ⟨_, ds.length, rfl, .inr ⟨_, hs, ha.len.symm⟩, q H2 e2⟩
theorem ed_lenS {z : Str} (h : Ev te σ H (.str z)) (hz : z.length ≤ 100000) : Ev (tCB (rLenD K) (tCons te tNil)) σ H (.int (z.length : Int)) := fun H1 e1 Q q =>
  h H1 e1 _ fun H2 e2 => ⟨_, z.length, rfl, ⟨sz_of hz, rfl⟩, q H2 e2⟩
theorem ed_lenL {p : Addr} {xs : List V} (h : Ev te σ H (.ref p)) (hx : SqL K H p xs) : Ev (tCB (rLenD K) (tCons te tNil)) σ H (.int (xs.length : Int)) := fun H1 e1 Q q =>
  h H1 e1 _ fun H2 e2 => ⟨_, xs.length, rfl, .inl ⟨xs, ex_l (e1.trans e2) hx, rfl⟩, q H2 e2⟩
/-- e[j] of a tuple -/
theorem ed_ixT {j : Nat} (h : EvD K ta σ H (.tuple ds)) (hi : ∀ H1, Ex H H1 → Ev tb σ H1 (.int (j : Int))) (hd : ds[j]? = some d) : EvD K (tOp (rIxT K) ta tb) σ H d := fun H1 e1 Q q =>
  h H1 e1 _ fun v H2 e2 g => hi H2 (e1.trans e2) H2 (Ex.refl _) _ fun H3 e3 => by
    cases g with
    | @tup a xs _ hs ha =>
      obtain ⟨x, hx, gx⟩ := ha.at hd
      have lt : j < xs.length := (List.getElem?_eq_some_iff.mp hx).1
      exact ⟨a, xs, (j : Int), x, rfl, rfl, ex_t e3 hs, atI_nat hx, q x H3 (e2.trans e3) (Dd.ext e3 _ _ gx)⟩

/-! statements -/
theorem s_asgD (h : EvD K te σ H d) (k : ∀ v H1, Ex H H1 → Dd K H1 v d → D.nx (σ.set i (some v)) H1) : tAsg te (gName i) D σ H := h H (Ex.refl H) _ fun v H1 e g => k v H1 e g
theorem q_asgD {tz : TS} (h : EvD K te σ H d) (k : ∀ v H1, Ex H H1 → Dd K H1 v d → tz D (σ.set i (some v)) H1) : tSeq (tAsg te (gName i)) tz D σ H := s_asgD (D := { D with nx := tz D }) h k
theorem s_asgDL (h : EvDL K te σ H ds) (k : ∀ p xs H1, H p = none → Ex H H1 → H1 p = some (.lst xs) → Dds K H1 xs ds → D.nx (σ.set i (some (.ref p))) H1) : tAsg te (gName i) D σ H := h H (Ex.refl H) _ fun p xs H1 hp e h1 g => k p xs H1 hp e h1 g
theorem q_asgDL {tz : TS} (h : EvDL K te σ H ds) (k : ∀ p xs H1, H p = none → Ex H H1 → H1 p = some (.lst xs) → Dds K H1 xs ds → tz D (σ.set i (some (.ref p))) H1) : tSeq (tAsg te (gName i)) tz D σ H := s_asgDL (D := { D with nx := tz D }) h k
theorem s_retD (h : EvD K te σ H d) (k : ∀ v H1, Ex H H1 → Dd K H1 v d → D.rt v H1) : tRet te D σ H := h H (Ex.refl H) _ fun v H1 e g => k v H1 e g

/-! what is walked, by data -/
def EvIt (K : PySem.W.Frag) (wi : TI) (σ : L2.St) (H : Hp) (ds : List PyData) : Prop := ∀ H1, Ex H H1 → ∀ R : It → Hp → Prop,
  (∀ J H2, Ex H1 H2 → Walk J ds.length (fun H' => Ex H2 H') (fun i Hh x H' => H' = Hh ∧ ∃ d, ds[i]? = some d ∧ Dd K Hh x d) → R J H2) → wi σ H1 R
theorem walk_L {a : Addr} {xs : List V} (hx : SqL K H a xs) (g : Dds K H xs ds) : Walk (Itl K a) ds.length (fun H' => Ex H H') (fun i Hh x H' => H' = Hh ∧ ∃ d, ds[i]? = some d ∧ Dd K Hh x d) := by
  rw [← g.len]
  exact walk_list.mono (fun H' e => ex_l e hx) fun i Hh x H' _ e y => ⟨y.1, (Dds.ext e _ _ g).get y.2⟩
theorem walk_T {a : Addr} {xs : List V} (hx : SqT K H a xs) (g : Dds K H xs ds) : Walk (Itt K a) ds.length (fun H' => Ex H H') (fun i Hh x H' => H' = Hh ∧ ∃ d, ds[i]? = some d ∧ Dd K Hh x d) := by
  rw [← g.len]
  exact walk_tup.mono (fun H' e => ex_t e hx) fun i Hh x H' _ e y => ⟨y.1, (Dds.ext e _ _ g).get y.2⟩
def signsD (z : Str) : List PyData := z.cps.toList.map fun c => .str ⟨#[c]⟩
theorem walk_S {z : Str} : Walk (Its z) (signsD z).length (fun H' => Ex H H') (fun i Hh x H' => H' = Hh ∧ ∃ d, (signsD z)[i]? = some d ∧ Dd K Hh x d) := by
  have e : (signsD z).length = z.cps.size := by simp [signsD]
  rw [e]
  refine walk_str.mono (fun _ _ => True.intro) fun i Hh x H' _ _ y => ?_
  obtain ⟨y1, c, y2, rfl⟩ := y
  exact ⟨y1, .str ⟨#[c]⟩, by simp [signsD, y2], .str _⟩
theorem it_L {tl : TE} {a : Addr} {xs : List V} (h : Ev tl σ H (.ref a)) (hx : SqL K H a xs) (g : Dds K H xs ds) : EvIt K (iList K tl) σ H ds := fun H1 e R k =>
  h H1 e _ fun H2 e2 => ⟨a, rfl, ⟨xs, ex_l (e.trans e2) hx⟩, k _ H2 e2 (walk_L (ex_l (e.trans e2) hx) (Dds.ext (e.trans e2) _ _ g))⟩
theorem it_NL {tl : TE} (h : EvDL K tl σ H ds) : EvIt K (iList K tl) σ H ds := fun H1 e R k =>
  h H1 e _ fun p xs H2 hp e2 hx g => ⟨p, rfl, ⟨xs, sq_of hx⟩, k _ H2 e2 (walk_L (sq_of hx) g)⟩
theorem it_T {tl : TE} (h : EvD K tl σ H (.tuple ds)) : EvIt K (iTup K tl) σ H ds := fun H1 e R k =>
  h H1 e _ fun v H2 e2 g => by
    cases g with
    | @tup a xs _ hs ha => exact ⟨a, rfl, ⟨xs, hs⟩, k _ H2 e2 (walk_T hs ha)⟩
theorem it_S {tl : TE} {z : Str} (h : Ev tl σ H (.str z)) : EvIt K (iStr tl) σ H (signsD z) := fun H1 e R k => h H1 e _ fun H2 e2 => ⟨z, rfl, k _ H2 e2 walk_S⟩
theorem take_yes {p : PyData → Bool} {f : PyData → PyData} {i : Nat} (e : ds[i]? = some d) (h : p d = true) : ((ds.take (i + 1)).filter p).map f = ((ds.take i).filter p).map f ++ [f d] := by
  rw [List.take_add_one, e]
  simp [h]
theorem take_no {p : PyData → Bool} {f : PyData → PyData} {i : Nat} (e : ds[i]? = some d) (h : p d = false) : ((ds.take (i + 1)).filter p).map f = ((ds.take i).filter p).map f := by
  rw [List.take_add_one, e]
  simp [h]
/-- [f for x in .. if p] -/
theorem edl_lc {wi : TI} {tt : TT} {j : Nat} {vs : List Nat} (p : PyData → Bool) (f : PyData → PyData) (h : EvIt K wi σ H ds) (hz : ds.length ≤ 40000) (nl : ∀ d, d ∈ ds → p d = true → noList (f d) = true) (hw : ∀ x, wipe ((wipe σ vs).set j (some x)) vs = wipe σ vs)
    (ht : ∀ x d H1, Ex H H1 → d ∈ ds → Dd K H1 x d → EvT tt ((wipe σ vs).set j (some x)) H1 (p d)) (he : ∀ x d H1, Ex H H1 → d ∈ ds → Dd K H1 x d → p d = true → EvD K te ((wipe σ vs).set j (some x)) H1 (f d)) :
    EvDL K (tLc wi (gName j) tt te vs) σ H ((ds.filter p).map f) := fun H0 e Q q => h H0 e _ fun J H1 e1 w Dl hD =>
  lc_it w (fun i H' => Ex (upd H1 Dl (.lst [])) (upd H' Dl (.lst [])) ∧ ∃ acc, H' Dl = some (.lst acc) ∧ Dds K H' acc (((ds.take i).filter p).map f)) ⟨fun a o h => by rw [upd_upd]; exact h, [], upd_same, by simp; exact .nil⟩
    (fun i H' _ p' a o ha => by
      have n : a ≠ Dl := ne_of_none ha hD
      have q1 := p'.1 a o (by rw [upd_ne n]; exact ha)
      rw [upd_ne n] at q1
      exact q1)
    (fun i x H' H2 hi pv y => by
      obtain ⟨rfl, d, hd, g⟩ := y
      obtain ⟨p1, acc, p2, p3⟩ := pv
      have ex : Ex H1 H2 := fun a o ha => by
        have n : a ≠ Dl := ne_of_none ha hD
        have q1 := p1 a o (by rw [upd_ne n]; exact ha)
        rw [upd_ne n] at q1
        exact q1
      have hm : d ∈ ds := List.mem_of_getElem? hd
      have la : acc.length ≤ i := by
        rw [p3.len, List.length_map]
        refine Nat.le_trans (List.length_filter_le _ _) ?_
        rw [List.length_take]
        omega
      have exE : Ex H H2 := (e.trans e1).trans ex
      refine ⟨hw x, ht x d H2 exE hm g H2 (Ex.refl _) _ fun H3 e3 => ?_⟩
      have step : ∀ {H4 : Hp}, Ex H2 H4 → Ex (upd H1 Dl (.lst [])) (upd H4 Dl (.lst [])) := fun {H4} e4 a o ha => by
        by_cases n : a = Dl
        · subst n
          rw [upd_same] at ha ⊢
          exact ha
        · rw [upd_ne n] at ha ⊢
          exact e4 a o (ex a o ha)
      cases hp : p d with
      | true =>
        refine he x d H3 (exE.trans e3) hm (Dd.ext e3 _ _ g) hp H3 (Ex.refl _) _ fun u H4 e4 gu => ⟨acc, e4 _ _ (e3 _ _ p2), sz_lt (by omega), ?_, acc ++ [u], upd_same, ?_⟩
        · rw [upd_upd]
          exact step (e3.trans e4)
        · rw [take_yes hd hp]
          have nl1 : noLists (((ds.take i).filter p).map f) = true := noLists_of fun d' h' => by
            rw [List.mem_map] at h'
            obtain ⟨d0, h0, rfl⟩ := h'
            rw [List.mem_filter] at h0
            exact nl d0 (List.mem_of_mem_take h0.1) h0.2
          have p2' := e4 _ _ (e3 _ _ p2)
          exact Dds.app (Dds.upd p2' _ _ nl1 (Dds.ext (e3.trans e4) _ _ p3)) (.cons (Dd.upd p2' _ _ (nl d hm hp) gu) .nil)
      | false =>
        refine ⟨step e3, acc, e3 _ _ p2, ?_⟩
        rw [take_no hd hp]
        exact Dds.ext e3 _ _ p3)
    (fun H' pv => by
      obtain ⟨p1, acc, p2, p3⟩ := pv
      rw [List.take_length] at p3
      refine q Dl acc H' (fresh_back e1 hD) (e1.trans fun a o ha => ?_) p2 p3
      have n : a ≠ Dl := ne_of_none ha hD
      have q1 := p1 a o (by rw [upd_ne n]; exact ha)
      rw [upd_ne n] at q1
      exact q1)
end
end My
set_option maxHeartbeats 4000000
/-! the end of a law whose defs make lambdas: the tables of their code objects are tracked from the start, no guarded builtin runs -/
namespace My
open PySem PySem.Spec PyProof.Rows L2

/-- the script and the empty tables, nothing else -/
def scriptTabs (K : PySem.W.Frag) (ts : List Addr) (a : Addr) (o : Obj) (xs : List V) : Hp := fun b => if b ∈ ts then some (.tbl #[]) else onlyScript K a o xs b

theorem lawCallT {P : Program} {w : World} {K : PySem.W.Frag} {mg mb : Str → Option Value} {k : Nat} {fa a : Addr} {cs : List (Addr × Addr)} {fd : FuncData} {x : Str} {sp : Sp}
    {s₁ : Shared} {vs : List Value} {ns : List Int}
    (inK : K.In s₁.heap) (glob : s₁.heap.Ns mainGlobals mg) (blt : s₁.heap.Ns builtinsNs mb) (bltIs : ∀ x : Str, x ≠ "__name__" → mb x = bootBuiltins x)
    (free : s₁.heap.NoLimit) (gens : s₁.gens = #[])
    (tabs : ∀ p ∈ cs, s₁.heap.get? p.2 = some { cls := .none, data := .fields #[] }) (out : ∀ p ∈ cs, K.lookup p.2 = none) (code : ∀ p ∈ cs, PySem.W.CodeHd s₁.heap p.1 p.2)
    (modB : ∃ (bm : Addr) (ob : Obj), mg "__builtins__" = some (.ref bm) ∧ bm ≠ builtinsNs ∧ s₁.heap.get? bm = some ob ∧ ob.cls = .type "module" ∧ ob.dict = some builtinsNs ∧ ob.data = .plain)
    (ha : s₁.heap.get? a = some { cls := .type "list", data := .seq vs.toArray }) (areInts : IntsAre vs ns)
    (len : ns.length ≤ sizeLine) (room : Room k callerA)
    (F : ∀ base : Heap, K.In base → base.Ns mainGlobals mg → (∀ p ∈ cs, LamX.TabB base mg p.1 p.2) → FnG P w K mg base CX0 k fa fd [x] sp)
    (binds : ∀ (s : Shared) (u : Value), BindsTo s fd ⟨[u], []⟩ [(x, u)])
    (promise : ∀ H : Hp, (∀ p ∈ cs, H p.2 = some (.tbl #[])) → SqL K H a (ns.map V.int) → sp [.ref a] H (fun v _ => v = .bl true) fun _ _ _ => False) :
    codeAny (model P w) callerA (.call (.ref fa) ⟨[.ref a], []⟩)
      (fun r s' => r = .ok (.ret (.bool true)) ∧ OldK s₁.heap s'.heap ∧ s'.os = s₁.os ∧ AllBare s'.gens) s₁ := by
  have rv := vals_ints areInts
  have lenV := areInts.length
  let ts := cs.map (·.2)
  let ob : Obj := { cls := .type "list", data := .seq vs.toArray }
  let H := scriptTabs K ts a ob (ns.map V.int)
  have isTab : ∀ {b : Addr}, b ∈ ts → s₁.heap.get? b = some { cls := .none, data := .fields #[] } := fun {b} hb => by
    obtain ⟨p, hp, rfl⟩ := List.mem_map.mp hb
    exact tabs p hp
  have aOut : a ∉ ts := fun z => by
    have q := isTab z
    rw [ha] at q
    have q2 := congrArg Obj.data (Option.some.inj q)
    cases q2
  have Htab : ∀ {b : Addr}, b ∈ ts → H b = some (.tbl #[]) := fun hb => if_pos hb
  have Hrest : ∀ {b : Addr}, b ∉ ts → H b = onlyScript K a ob (ns.map V.int) b := fun hb => if_neg hb
  have hok : HOk P w H s₁.heap := fun b u e => by
    by_cases hb : b ∈ ts
    · rw [Htab hb] at e
      cases e
      exact isTab hb
    · rw [Hrest hb] at e
      obtain ⟨rfl, _, rfl⟩ := onlyScript_at e
      exact ⟨ha, by rw [List.length_map]; exact len, vs, _, rv, ha⟩
  have hS : SqL K H a (ns.map V.int) := by
    cases e : K.lookup a with
    | none => exact Or.inl (Or.inr ⟨ob, (Hrest aOut).trans (if_pos ⟨rfl, by rw [e]; rfl⟩)⟩)
    | some o =>
      have q := inK a o e
      rw [ha] at q
      cases q
      exact Or.inr ⟨_, vs.toArray, _, e, rfl, rfl, rfl, by rw [List.size_toArray, lenV]; exact len, by simpa using rv⟩
  have freeAt : ∀ {b : Addr}, (b = a → False) → b ∉ ts → H b = none := fun {b} n1 n2 => by
    rw [Hrest n2]
    cases e : onlyScript K a ob (ns.map V.int) b with
    | none => rfl
    | some u => exact (n1 (onlyScript_at e).1).elim
  have under : ∀ {b : Addr} {o : Obj}, s₁.heap.get? b = some o → H b = none → (hidT s₁.heap H).get? b = some o := fun e n => hidT_get e n
  -- an object that is neither a row of values nor an empty record is not tracked
  have other : ∀ {b : Addr} {o : Obj}, s₁.heap.get? b = some o → (∀ its n, o.data ≠ .seq its n) → o.data ≠ .fields #[] → (hidT s₁.heap H).get? b = some o := fun {b o} e n1 n2 => by
    refine under e (freeAt ?_ fun z => ?_)
    · rintro rfl
      rw [ha] at e
      cases e
      exact n1 _ _ rfl
    · rw [isTab z] at e
      cases e
      exact n2 rfl
  have maps : ∀ {b : Addr} {m : Str → Option Value}, s₁.heap.Ns b m → (hidT s₁.heap H).Ns b m := by
    rintro b m ⟨o, es, ep, e, d, r⟩
    exact ⟨o, es, ep, other e (fun _ _ z => by rw [d] at z; cases z) (fun z => by rw [d] at z; cases z), d, r⟩
  have inBase : K.In (hidT s₁.heap H) := fun b o e => under (inK b o e) (by
    by_cases hb : b ∈ ts
    · obtain ⟨p, hp, rfl⟩ := List.mem_map.mp hb
      rw [out p hp] at e
      cases e
    · rw [Hrest hb]
      cases q : onlyScript K a ob (ns.map V.int) b with
      | none => rfl
      | some u =>
        obtain ⟨rfl, z, _⟩ := onlyScript_at q
        rw [z] at e
        cases e)
  have md : Mod K mg (hidT s₁.heap H) := by
    obtain ⟨mc, q1, q2⟩ := free
    exact ⟨inBase, maps glob, ⟨mb, maps blt, bltIs⟩, ⟨mc, maps q1, q2⟩⟩
  have TB : ∀ p ∈ cs, LamX.TabB (hidT s₁.heap H) mg p.1 p.2 := fun p hp => by
    refine ⟨?_, ?_, ?_⟩
    · obtain ⟨o, us, file, tf, flags, tg, inF, text, tt, e1, r1, r2, rest⟩ := code p hp
      refine ⟨o, us, file, tf, flags, tg, inF, text, tt, other e1 (fun _ _ z => by rw [r2] at z; cases z) (fun z => ?_), r1, r2, rest⟩
      have z2 := r2.symm.trans z
      have us0 : us = #[] := by injection z2
      have h3 := rest.1
      rw [us0] at h3
      simp at h3
    · obtain ⟨bm, obm, b1, b2, b3, b4, b5, b6⟩ := modB
      refine ⟨bm, obm, b1, b2, ?_, ?_, other b3 (fun _ _ z => by rw [b6] at z; cases z) (fun z => by rw [b6] at z; cases z), b4, b5, b6⟩
      · rintro rfl
        obtain ⟨o, es, ep, e, d, _⟩ := glob
        rw [e] at b3
        cases b3
        rw [d] at b6
        cases b6
      · rintro rfl
        rw [tabs p hp] at b3
        cases b3
        cases b6
    · intro z
      obtain ⟨o, es, ep, e, d, _⟩ := glob
      rw [z, tabs p hp] at e
      cases e
      cases d
  have nil : ∀ b : Addr, b ∈ frs [] → False := fun b z => by
    have z' : b ∈ ([] : List Addr) := z
    cases z'
  have e0 : Env0 P w K mg (hidT s₁.heap H) callerA [] s₁ H :=
    ⟨rfl, md, fun b o e => of_hidT e, Nat.le_of_eq (hidT_size _ _), trivial, fun b hb => (nil b hb).elim, hok, .of_eq gens⟩
  have run := (F _ inBase (maps glob) TB).run callerA [] s₁ H ⟨[.ref a], []⟩ [.ref a] [.ref a] _ _ rfl room e0 (binds s₁ (.ref a)) (.cons rfl .nil)
    (promise H (fun p hp => Htab (List.mem_map_of_mem hp)) hS)
  refine codeAny_mono run fun r s' h => ?_
  match r, h with
  | .error e, h => exact False.elim h
  | .ok (.ret u), h =>
    obtain ⟨v, H', os, bare, un, hok', r', q⟩ := h
    obtain rfl : v = .bl true := q
    obtain rfl : u = Value.bool true := r'
    have same : ∀ b o, b ∉ ts → s₁.heap.get? b = some o → s'.heap.get? b = some o := fun b o nb e => by
      cases q : H b with
      | none => exact un.keep b o e q (fun z => nil b z) (by simp)
      | some u =>
        have q1 := q
        rw [Hrest nb] at q1
        obtain ⟨rfl, _, rfl⟩ := onlyScript_at q1
        have q2 := un.frzs _ _ _ q
        obtain ⟨e2, _⟩ := hok' _ _ q2
        rw [ha] at e
        cases e
        exact e2
    have bigger : ∀ p ∈ cs, ∃ more : Array Value, s'.heap.get? p.2 = some { cls := .none, data := .fields more } := fun p hp => by
      obtain ⟨more, z⟩ := un.tbls p.2 #[] (Htab (List.mem_map_of_mem hp))
      exact ⟨_, hok' p.2 _ z⟩
    refine ⟨rfl, ⟨fun b o e => ?_, fun b o e => ?_⟩, os, bare⟩
    · by_cases hb : b ∈ ts
      · obtain ⟨p, hp, rfl⟩ := List.mem_map.mp hb
        obtain ⟨more, hm⟩ := bigger p hp
        rw [tabs p hp] at e
        cases e
        refine .inr (.inl ⟨((code p hp).tab (tabs p hp)).isCodeTable, rfl, #[], more, rfl, ?_⟩)
        rw [Array.empty_append]
        exact hm
      · exact .inl (same b o hb e)
    · by_cases hb : b ∈ ts
      · obtain ⟨p, hp, rfl⟩ := List.mem_map.mp hb
        obtain ⟨more, hm⟩ := bigger p hp
        exact ⟨_, hm⟩
      · exact ⟨o, same b o hb e⟩
  | .ok .next, h => exact False.elim h
  | .ok .brk, h => exact False.elim h
  | .ok .cont, h => exact False.elim h

/-- what the head leaves to the law's promise, with tables -/
theorem walkGT {l : PySem.W.OpenLaw} {n k : Nat} {q : Program} {loose : List Str} {XP : (Str → Option Value) → Heap → Prop} {YP : World → Heap → Prop}
    {d : DefRec} {K : Params → PySem.W.Frag} {sp : World → Sp} {x : Str}
    (most : l.most = some n) (small : n ≤ sizeLine) (hdf : d.params.defaults = []) (room : Room k callerA)
    (hY : ∀ (w : World) (h : Heap), YP w h → (K w.params).In h)
    (F : ∀ (w : World) (mg : Str → Option Value) (fa : Addr) (h : Heap), YP w h → (K w.params).In h → h.Ns mainGlobals mg → mg d.name = some (.ref fa) →
      ∃ (fd : FuncData) (cs : List (Addr × Addr)), (∀ p ∈ cs, h.get? p.2 = some { cls := .none, data := .fields #[] }) ∧ (∀ p ∈ cs, (K w.params).lookup p.2 = none) ∧ (∀ p ∈ cs, PySem.W.CodeHd h p.1 p.2) ∧
        (∀ (s : Shared) (u : Value), BindsTo s fd ⟨[u], []⟩ [(x, u)]) ∧
        (∀ (H : Hp) (a : Addr) (ns : List Int), ns.length ≤ n → (∀ p ∈ cs, H p.2 = some (.tbl #[])) → SqL (K w.params) H a (ns.map V.int) → sp w [.ref a] H (fun v _ => v = .bl true) fun _ _ _ => False) ∧
        ∀ base : Heap, (K w.params).In base → base.Ns mainGlobals mg → (∀ p ∈ cs, LamX.TabB base mg p.1 p.2) → FnG l.prog w (K w.params) mg base CX0 k fa fd [x] (sp w)) :
    PySem.W.WalkO q loose XP YP l.row.toRowW d [] (fun f vs => PySem.call f vs) := by
  refine Att.attach_callB most hdf fun w s₀ s₁ mg mb fa o pm cd doc a vs ns G Y ho hd hcd hmg hobj hints hlen hbits hg => ?_
  have inK := hY w _ Y
  obtain ⟨fd, cs, tabs, out, code, binds, promise, hF⟩ := F w mg fa _ Y inK G.T.g hmg
  exact lawCallT inK G.T.g G.T.b G.T.builtins G.T.nolimit hg tabs out code G.T.bmain hobj hints (Nat.le_trans hlen small) room hF binds
    fun H hH hS => promise H a ns hlen hH hS
end My
set_option maxHeartbeats 2000000
/-! own == on a plain instance, whatever the other side is; len of an instance -/
namespace My
open PySem PySem.Spec PyProof.Rows L2
theorem cmpback2 {P : Value → Shared → Prop} {z : V} {v : Value} {s' : Shared} (r : RelV z v) (h : P v s') : PySem.W.CmpBack P v s' := by
  cases z with
  | non => cases (show v = Value.none from r); exact h
  | bl b => cases (show v = Value.bool b from r); exact h
  | int i =>
    obtain ⟨t, e⟩ := (show ∃ t, v = Value.int i t from r)
    cases e
    exact h
  | str x =>
    obtain ⟨t, e⟩ := (show ∃ t, v = Value.str x t from r)
    cases e
    exact h
  | byt x =>
    obtain ⟨t, e⟩ := (show ∃ t, v = Value.bytes x t from r)
    cases e
    exact h
  | flt x =>
    obtain ⟨t, e⟩ := (show ∃ t, v = Value.float x t from r)
    cases e
    exact h
  | ref a => cases (show v = Value.ref a from r); exact h
  | ty n => cases (show v = Value.type n from r); exact h
section
variable {X : Cx} {CX : CXT} {k : Nat} {C g : Addr} {fd : FuncData} {ps : List Str} {sp : Sp} {E : XK}
/-- x op y, x an instance of the class at C whose def for op is at g; y of a type that is none below C -/
def rOwnI (K : PySem.W.Frag) (C : Addr) (sp : Sp) (E : XK) : R2 := fun x y H Q => ∃ a dx fs t, x = .ref a ∧ H a = some (.ins C dx fs) ∧ TyX K H y t ∧ PySem.W.notFirst K C t = true ∧ sp [x, y] H Q E
theorem op_ownI {op : CmpOp} (hop : ∀ a b, compareOp op a b = richCompare op a b) (hs : PySem.W.findIn X.K (.ref C) (cmpInfo op).2.1 = some (some (.ref g))) (hf : PySem.W.isFn X.K (.ref g) = true)
    (F : FnOk X.prog X.w X.K X.mg X.base CX k g fd ps sp) (hb : Binds X.K fd ps []) (hr : Room k X.A) (hx : Passes CX X E) : OpR X (compareOp op) (rOwnI X.K C sp E) := by
  intro pins s σ H x y v u Q I rx ry h
  obtain ⟨a, dx, fs, t, rfl, ha, ty, hn, q⟩ := h
  cases (show v = Value.ref a from rx)
  obtain ⟨mA, J, _⟩ := ins_get I.hok ha
  obtain ⟨od, J, _⟩ := J.look
  obtain ⟨P, Z, hP, _⟩ := kit_of I ry ty
  obtain ⟨m, hF⟩ := I.fr
  rw [hop]
  refine PySem.W.cmp_K (op := op) (tb := t) hr.units0 hF I.ok.mod.kin J (Z.ty _ _ I.kIn hP) hn hs hf ?_
  have r2 : Vals [V.ref a, y] [Value.ref a, u] := .cons rfl (.cons ry .nil)
  have z := run_fn (us := [.ref a, u]) (vs := [.ref a, y]) F hr hb .nil hx I r2 (by simpa using q)
  refine wpAny_mono z (fun w s' z => ?_) fun _ _ x => x
  obtain ⟨z', H', I', rz, qz⟩ := z
  exact cmpback2 rz ⟨z', H', I', rz, qz⟩
/-- len(x), x an instance with an own __len__ -/
def rLenI (C : Addr) (sp : Sp) (E : XK) : List V → Hp → VK → Prop := fun xs H Q => ∃ a dx fs, xs = [.ref a] ∧ H a = some (.ins C dx fs) ∧ sp xs H (fun v H' => ∃ n : Nat, v = .int n ∧ n < 1000000 ∧ Q (.int n) H') E
theorem call_lenI (hs : PySem.W.findIn X.K (.ref C) "__len__" = some (some (.ref g))) (hf : PySem.W.typeIn X.K (.ref g) = some (.type "function"))
    (F : FnOk X.prog X.w X.K X.mg X.base CX k g fd ps sp) (hb : Binds X.K fd ps []) (hr : Room (k + 1) X.A) (hx : Passes CX X.nox E) : CallR X (.builtin "len") (rLenI C sp E) := by
  intro pins s σ H xs us Q I r h
  obtain ⟨a, dx, fs, rfl, ha, q⟩ := h
  obtain ⟨mA, J, _⟩ := ins_get I.hok ha
  obtain ⟨od, J, _⟩ := J.look
  obtain ⟨u, rfl, ru⟩ : ∃ u, us = [u] ∧ RelV (.ref a) u := by
    cases r with
    | cons p q =>
      cases q
      exact ⟨_, rfl, p⟩
  cases (show u = Value.ref a from ru)
  obtain ⟨hp, gs, d, t, os⟩ := s
  refine Calls.call_function_entry kind_len plain_len entry_len (args_len1 _) ?_
  unfold Builtin.«len»
  refine wpAny_bind (m := oneArg "len" _) (wpAny_pure ?_)
  have hl : ([Value.ref a] : List Value).length = ps.length := by
    rw [← F.len _ _ _ _ q]
    rfl
  refine wpAny_bind (m := callSpecial? (.ref a) (Str.ofString "__len__")) (PySem.W.special_fn I.kIn J hs hf (wpAny_call (codeAny_mono (F.run X.A.in1 X.stack ⟨hp, gs, d, t, os⟩ H ⟨[.ref a], []⟩ [.ref a] [.ref a] _ E hr.in1 I.env0.in1 (by simpa using hb _ [.ref a] I.kIn hl) (.cons rfl .nil) q) fun r s' hq => ?_)))
  cases r with
  | error er => exact False.elim (hx pins σ H ⟨hp, gs, d, t, os⟩ er s' (I.wish _) hq)
  | ok fl =>
    cases fl with
    | ret u =>
      obtain ⟨v, H', I3, rv, n, rfl, hn, q3⟩ := I.after hq
      obtain ⟨tk, rfl⟩ := (show ∃ t, u = Value.int n t from rv)
      refine wpAny_bind (wpAny_holding (wpAny_pure ?_))
      refine wpAny_bind (wpAny_letGo ?_)
      show wpAny _ _ (if (n : Int) < 0 then _ else _) _ _ _
      rw [if_neg (by omega)]
      show wpAny _ _ (if (n : Int) ≥ 2 ^ 63 then _ else _) _ _ _
      rw [if_neg (by omega)]
      refine wpAny_bind (wpAny_mkInt (wpAny_pure ?_))
      exact ⟨_, rfl, V.int n, H', I3.tok _, ⟨_, rfl⟩, q3⟩
    | next => exact False.elim hq
    | brk => exact False.elim hq
    | cont => exact False.elim hq
end
end My
set_option maxHeartbeats 2000000
/-! == of dicts whose values are data -/
namespace My
open PySem PySem.Spec PyProof.Rows L2
mutual
def noDict : PyData → Bool
  | .none => true
  | .bool _ => true
  | .int _ => true
  | .str _ => true
  | .tuple ds => noDicts ds
  | .list ds => noDicts ds
  | .dict _ => false
def noDicts : List PyData → Bool
  | [] => true
  | d :: ds => noDict d && noDicts ds
end
mutual
theorem dp_ofL {K : PySem.W.Frag} {H : Hp} : ∀ (d : PyData) (v : V), noDict d = true → Dd K H v d → Dp K H v d
  | .none, _, _, g => by
    cases g
    exact .non
  | .bool b, _, _, g => by
    cases g
    exact .bl b
  | .int i, _, _, g => by
    cases g
    exact .int i
  | .str x, _, _, g => by
    cases g
    exact .str x
  | .tuple ds, _, n, g => by
    cases g with
    | tup hs ha => exact .tup hs (dps_ofL ds _ n ha)
  | .list ds, _, n, g => by
    cases g with
    | lst hs ha => exact .lst hs (dps_ofL ds _ n ha)
  | .dict _, _, n, _ => by cases n
theorem dps_ofL {K : PySem.W.Frag} {H : Hp} : ∀ (ds : List PyData) (vs : List V), noDicts ds = true → Dds K H vs ds → DpAll K H vs ds
  | [], _, _, g => by
    cases g
    exact .nil
  | d :: ds, _, n, g => by
    cases g with
    | cons g1 g2 =>
      have n2 : (noDict d && noDicts ds) = true := n
      rw [Bool.and_eq_true] at n2
      exact .cons (dp_ofL d _ n2.1 g1) (dps_ofL ds _ n2.2 g2)
end
section
variable {X : Cx}
/-- d == e, both dicts by keys; e says what the values under a key answer -/
def rEqDK (K : PySem.W.Frag) : R2 := fun x y H Q => ∃ (a b : Addr) (ka kb : List (Key × V)) (e : Key → Bool), x = .ref a ∧ y = .ref b ∧ H a = some (.dK ka) ∧ H b = some (.dK kb) ∧
  (∀ p ∈ ka, ∀ v', valV kb p.1 = some v' → ∃ d d', Dp K H p.2 d ∧ Dp K H v' d' ∧ d.canLay0 = true ∧ d'.canLay0 = true ∧ d.depth ≤ 30 ∧ e p.1 = PyData.eqv d d') ∧
  Q (.bl (ka.length == kb.length && ka.all fun p => (valV kb p.1).isSome && e p.1)) H
theorem kv_keys {κ : Type} {ka : List (κ × V)} {va : List (κ × Value)} (r : KV ka va) (f : κ → Bool) : (va.all fun p => f p.1) = ka.all fun p => f p.1 := by
  unfold KV at r
  induction r with
  | nil => rfl
  | cons h _ ih => rw [List.all_cons, List.all_cons, ih, h.1]
theorem kv_mem {κ : Type} {ka : List (κ × V)} {va : List (κ × Value)} (r : KV ka va) {k : κ} {u : Value} (h : (k, u) ∈ va) : ∃ v, (k, v) ∈ ka ∧ RelV v u := by
  unfold KV at r
  induction r with
  | nil => cases h
  | @cons p q _ _ z _ ih =>
    rcases List.mem_cons.mp h with rfl | h
    · refine ⟨p.2, ?_, z.2⟩
      have e : p.1 = k := z.1
      rw [← e]
      exact List.mem_cons_self ..
    · obtain ⟨v, h1, h2⟩ := ih h
      exact ⟨v, List.mem_cons_of_mem _ h1, h2⟩
theorem op_eqDK (hu : X.A.units + 64 < cLine) : OpR X (compareOp .Eq) (rEqDK X.K) := by
  intro pins s σ H x y v u Q I rx ry h
  obtain ⟨a, b, ka, kb, e, rfl, rfl, ea, eb, hd, q⟩ := h
  obtain rfl : v = Value.ref a := rx
  obtain rfl : u = Value.ref b := ry
  obtain ⟨_, ya, va, ra, da⟩ := (show ObjOk X.prog X.w H s.heap a (.dK ka) from I.hok a _ ea)
  obtain ⟨_, yb, vb, rb, db⟩ := (show ObjOk X.prog X.w H s.heap b (.dK kb) from I.hok b _ eb)
  have some : ∀ k, (valueAt vb k).isSome = (valV kb k).isSome := fun k => by
    have z := rb.val k
    cases h1 : valV kb k <;> cases h2 : valueAt vb k <;> rw [h1, h2] at z <;> first | rfl | exact z.elim
  refine PySem.W.eq_dictsT (n := 30) (e := e) ya yb da db (fun k v y hm hv => ?_) (by omega) ?_
  · obtain ⟨v0, hm0, rv⟩ := kv_mem ra hm
    have z := rb.val k
    rw [hv] at z
    cases h1 : valV kb k with
    | none =>
      rw [h1] at z
      exact z.elim
    | some v' =>
      rw [h1] at z
      obtain ⟨d, d', g, g', c, c', dep, ek⟩ := hd _ hm0 v' h1
      obtain ⟨as, r1⟩ := Dp.reads I d v0 v g rv
      obtain ⟨bs, r2⟩ := Dp.reads I d' v' y g' z
      rw [ek]
      exact .leaf fun A hA => SeqAt.eqAt_reads d d' A s v y as bs r1 r2 c c' (by
        have := Nat.min_le_left d.depth d'.depth
        omega)
  · have e1 : (va.all fun p => (valueAt vb p.1).isSome && e p.1) = ka.all fun p => (valV kb p.1).isSome && e p.1 := by
      rw [kv_keys ra fun k => (valueAt vb k).isSome && e k]
      simp only [some]
    have e2 : va.length = ka.length := (Paired.length ra).symm
    have e3 : vb.length = kb.length := (Paired.length rb).symm
    rw [e1, e2, e3]
    exact ⟨.bl _, H, I, rfl, q⟩
end
end My
namespace My
open PySem PySem.Spec PyProof.Rows L2
def tRev (K : PySem.W.Frag) (te : TE) (ts : TO) : TE := fun σ H Q => te σ H fun x H1 => ts σ H1 fun o H2 => o = some (-1) ∧ ∃ a xs, x = .ref a ∧ SqL K H2 a xs ∧ ∀ p, H2 p = none → Q (.ref p) (upd H2 p (.lst xs.reverse))
/-- xs[::-1] of a list -/
theorem pe_rev {X : Cx} {e st : Expr} {te : TE} {ts : TO} {p2 pos : Pos} (he : PE X e te) (hs : PO X (some st) ts) : PE X (.Subscript e (.Slice none none (some st) p2) pos) (tRev X.K te ts) := by
  refine ⟨fun pins s σ H Q I h => ?_⟩
  refine Subscript_ (thn (he.run pins s σ H _ I h) fun v s1 ⟨x, H1, I1, r1, q1⟩ => ?_)
  refine wpAny_Slice ?_
  rw [evalPart_none]
  refine wpAny_pure ?_
  refine wpAny_pure ?_
  refine thn (hs.run pins s1 σ H1 _ I1 q1) fun vk s3 ⟨o, H3, I3, pk, q3⟩ => ?_
  obtain ⟨rfl, a, xs, rfl, hx, q⟩ := q3
  cases r1
  have I4 : Inv X pins σ H3 { s3 with heap := s3.heap.push { cls := .type "slice", data := .fields #[.none, .none, vk] } } := I3.kept (t' := s3.toks) fun b ob q => Heap.get?_push_of_some _ q
  obtain ⟨its, r, ht, hz⟩ := I4.list hx
  have hlen := r.length
  show wpAny (model X.prog X.w) X.A (subscriptTail e (.Slice none none (some st) p2) (.ref a) (.ref s3.heap.objs.size)) (EP X pins σ Q) X.xe { s3 with heap := s3.heap.push { cls := .type "slice", data := .fields #[.none, .none, vk] } }
  refine tail_any (ops := [.ref a, .ref s3.heap.objs.size]) ht.isList.typeIs slot_list_getitem.lookup ?_ (by with_unfolding_all rfl)
  refine wpAny_getItem_list_slice ht.isList (Heap.IsSliceOf.new ..) .none .none pk (by decide) ?_ (by rw [List.size_toArray] <;> omega)
  rw [PySem.W.krv_pick]
  refine ⟨.ref _, _, I4.laid (t' := s3.toks) (o := .lst xs.reverse) (fun b ob q => Heap.get?_push_of_some _ q) (Nat.le_refl _) ?_, rfl, q _ (I4.hok.fresh (Nat.le_refl _))⟩
  refine ⟨by rw [List.length_reverse]; exact hz, _, 0, r.reverse, Heap.get?_push_size _ rfl⟩
end My
set_option maxHeartbeats 4000000
namespace K70
open PySem PySem.Spec PyProof.Rows L2 Evl My LamX
def top (i : Nat) : Stmt := PySem.Challenge.pw_maskededits_k70_read_simple_statements.main.body.getD i (.Pass ⟨0, 0, 0, 0⟩)
abbrev sEor : Stmt := top 12
abbrev sNum : Stmt := top 13
abbrev sWrd : Stmt := top 14
abbrev sTxt : Stmt := top 15
abbrev sSgn : Stmt := top 16
abbrev sTat : Stmt := top 17
abbrev sTok : Stmt := top 18
def LET : Str := "abcdefghijklmnopqrstuvwxyz"
def DIG : Str := "0123456789"
def WSG : Str := "abcdefghijklmnopqrstuvwxyz0123456789_"
def BLK : Str := " \n\t"
/-- the sign at a place -/
def sgn (t : Str) (i : Nat) : Option Nat := t.cps.toList[i]?
/-- from at on stand n signs of z, and no more of them -/
def RunAt (t z : Str) (a n : Nat) : Prop := (∀ k, k < n → ∃ c, sgn t (a + k) = some c ∧ c ∈ z.cps.toList) ∧ ∀ c, sgn t (a + n) = some c → c ∉ z.cps.toList
theorem sgn_lt {t : Str} {i c : Nat} (h : sgn t i = some c) : i < t.length := by
  have z := (List.getElem?_eq_some_iff.mp h).1
  rw [Array.length_toList] at z
  exact z
theorem sgn_none {t : Str} {i : Nat} (h : sgn t i = none) : t.length ≤ i := by
  have z := List.getElem?_eq_none_iff.mp h
  rw [Array.length_toList] at z
  exact z
theorem sgn_some {t : Str} {i : Nat} (h : i < t.length) : ∃ c, sgn t i = some c := ⟨_, List.getElem?_eq_getElem (by rw [Array.length_toList]; exact h)⟩
def spEor : Sp := fun vs H Q _ => ∃ (t z : Str) (a n : Nat), vs = [.str t, .int (a : Int), .str z] ∧ t.length ≤ 100000 ∧ a + n ≤ t.length ∧ RunAt t z a n ∧ ∀ H', Ex H H' → Q (.int ((a + n : Nat) : Int)) H'
section
variable {P : Program} {w : World} {K : PySem.W.Frag} {mg : Str → Option Value} {base : Heap} {f : Addr} {fd : FuncData}
theorem scEor : FnScope ["text", "at", "signs"] ["text", "at", "signs"] (defScope sEor) := ⟨rfl, rfl, rfl, by decide +kernel, rfl, by decide +kernel, by decide +kernel⟩
theorem ok_eor (F : Fun K "end_of_row" "end_of_row" sEor f fd) (T : mg "len" = none) : FnOk P w K mg base CX0 1 f fd ["text", "at", "signs"] spEor := by
  refine F.ok scEor (fun vs H Q E h => ?_) (fun cdv A outer s H vs Q E hr h => ?_)
  · obtain ⟨t, z, a, n, rfl, _⟩ := h
    rfl
  · obtain ⟨t, z, a, n, rfl, tl, an, run, kQ⟩ := h
    refine ⟨_, pss_cons (ps_while PassesOwn.never (PW.pt (pw_and (pt_cmpR op_lt (pv 1) (pe_callB call_len (by rfl) T (by decide +kernel) (pa_cons (pv 0) pa_nil)) (nomark _)) (pw_and1 (pt_cmpR op_in_sign (pe_ix ix_str (pv 0) (pv 1) (fun _ _ => rfl)) (pv 2) rfl))))
        (pss_one (ps_aug (i := 1) scEor.nd rfl (Or.inl rfl) pe_int ip_add)))
      (pss_one (ps_ret (pv 1))), ?_⟩
    refine q_while (fun m σ' H' => ∃ i, i + m = n ∧ σ' = [some (.str t), some (.int ((a + i : Nat) : Int)), some (.str z)] ∧ Ex H H') n ⟨0, by omega, rfl, Ex.refl H⟩ ?_
    rintro m σ' H' ⟨i, him, rfl, e⟩
    have lenE : ∀ {H1 : Hp}, Ev (tCB (fun xs H Q => ∃ x n, xs = [x] ∧ LenV K x H n ∧ Q (.int n) H) (tCons (tVar 0) tNil)) ([some (.str t), some (.int ((a + i : Nat) : Int)), some (.str z)] : L2.St) H1 (.int (t.length : Int)) := fun H2 e2 Q q => ⟨_, rfl, _, _, rfl, ⟨sz_of tl, rfl⟩, q H2 (Ex.refl _)⟩
    by_cases lt : i < n
    · obtain ⟨c, hc, mc⟩ := run.1 i lt
      have inE : Ev (tOp (fun x y H Q => ∃ (c : Nat) (z : Str), x = .str ⟨#[c]⟩ ∧ y = .str z ∧ Q (.bl (decide (c ∈ z.cps.toList))) H) (tOp rIxS (tVar 0) (tVar 1)) (tVar 2)) ([some (.str t), some (.int ((a + i : Nat) : Int)), some (.str z)] : L2.St) H' (.bl (decide (c ∈ z.cps.toList))) := fun H2 e2 Q q =>
        ⟨_, rfl, _, rfl, t, _, c, rfl, rfl, sz_of tl, atI_nat hc, _, rfl, c, z, rfl, rfl, q H2 (Ex.refl _)⟩
      refine ⟨true, et_is (et_and (a := decide (((a + i : Nat) : Int) < (t.length : Int))) (b := decide (c ∈ z.cps.toList)) (et_test (ev_op (ev_var rfl) lenE rv_I0)) fun _ => et_test inE) ?_, fun _ H1 e1 => ?_, fun z => (by cases z)⟩
      · rw [decide_eq_true (show ((a + i : Nat) : Int) < (t.length : Int) by omega), decide_eq_true mc]
        rfl
      · refine ⟨fun σ2 H2 => ∃ i', i' + (m - 1) = n ∧ σ2 = [some (.str t), some (.int ((a + i' : Nat) : Int)), some (.str z)] ∧ Ex H H2, fun σ2 H2 w => ⟨m - 1, by omega, w⟩, ?_⟩
        refine s_aug rfl ev_c fun H2 e2 => ⟨i + 1, by omega, ?_, (e.trans e1).trans e2⟩
        show ([some (.str t), some (.int (((a + i : Nat) : Int) + 1)), some (.str z)] : L2.St) = _
        rw [show ((a + i : Nat) : Int) + 1 = ((a + (i + 1) : Nat) : Int) by omega]
    · have ein : i = n := by omega
      subst ein
      refine ⟨false, ?_, fun z => (by cases z), fun _ H1 e1 => ⟨_, rfl, kQ H1 (e.trans e1)⟩⟩
      cases hs : sgn t (a + i) with
      | none =>
        have z := sgn_none hs
        exact et_is (et_and (a := decide (((a + i : Nat) : Int) < (t.length : Int))) (b := false) (et_test (ev_op (ev_var rfl) lenE rv_I0)) fun y => by
          have := of_decide_eq_true y
          omega) (by rw [Bool.and_false])
      | some c =>
        have nc := run.2 c hs
        have inE : Ev (tOp (fun x y H Q => ∃ (c : Nat) (z : Str), x = .str ⟨#[c]⟩ ∧ y = .str z ∧ Q (.bl (decide (c ∈ z.cps.toList))) H) (tOp rIxS (tVar 0) (tVar 1)) (tVar 2)) ([some (.str t), some (.int ((a + i : Nat) : Int)), some (.str z)] : L2.St) H' (.bl (decide (c ∈ z.cps.toList))) := fun H2 e2 Q q =>
          ⟨_, rfl, _, rfl, t, _, c, rfl, rfl, sz_of tl, atI_nat hs, _, rfl, c, z, rfl, rfl, q H2 (Ex.refl _)⟩
        exact et_is (et_and (a := decide (((a + i : Nat) : Int) < (t.length : Int))) (b := decide (c ∈ z.cps.toList)) (et_test (ev_op (ev_var rfl) lenE rv_I0)) fun _ => et_test inE) (by rw [decide_eq_false nc, Bool.and_false])
end
end K70
set_option maxHeartbeats 4000000
namespace K70
open PySem PySem.Spec PyProof.Rows L2 Evl My LamX
/-! what is never reached -/
def tNo : TS := fun _ _ _ => False
def eNo : TE := fun _ _ _ => False
theorem ps_no {X : Cx} {st : Stmt} : PS X st tNo := ⟨fun _ _ _ _ _ _ h => False.elim h⟩
theorem pss_no {X : Cx} {sts : List Stmt} : PSs X sts tNo := ⟨fun _ _ _ _ _ _ h => False.elim h⟩
theorem pe_no {X : Cx} {e : Expr} : PE X e eNo := ⟨fun _ _ _ _ _ _ h => False.elim h⟩
structure Gs (mg : Str → Option Value) : Prop where
  len : mg "len" = none
  int : mg "int" = none
  rng : mg "range" = none
  lets : ∃ u, mg "LETTERS" = some u ∧ RelV (.str LET) u
  digs : ∃ u, mg "DIGITS" = some u ∧ RelV (.str DIG) u
  wsgs : ∃ u, mg "WORD_SIGNS" = some u ∧ RelV (.str WSG) u
  blks : ∃ u, mg "BLANKS" = some u ∧ RelV (.str BLK) u
  mdig : ∃ u, mg "MOST_DIGITS" = some u ∧ RelV (.int 18) u
  lscr : ∃ u, mg "LONGEST_SCRIPT" = some u ∧ RelV (.int 2000) u
def sub (t : Str) (a n : Nat) : Str := ⟨((t.cps.toList.drop a).take n).toArray⟩
theorem cut_sub {t : Str} {a n : Nat} (h : a + n ≤ t.length) : cutS t (some (a : Int)) (some ((a + n : Nat) : Int)) = sub t a n := by
  unfold cutS sub
  rw [HT.sIx_nat, HT.sIx_nat]
  congr 3
  · omega
  · congr 1
    omega
/-- a token (kind, value, place) and where it ends -/
def TokQ (Q : VK) (H : Hp) (k : Str) (v : V) (a e : Nat) : Prop := ∀ p q H', Ex H H' → H' p = some (.tup [.ref q, .int (e : Int)]) → H' q = some (.tup [.str k, v, .int (a : Int)]) → Q (.ref p) H'
theorem evSub {σ : L2.St} {H : Hp} {ta tb : TE} {i j : Int} (ha : Ev ta σ H (.int i)) (hb : Ev tb σ H (.int j)) : Ev (tOp (rI0 fun i j => .int (i - j)) ta tb) σ H (.int (i - j)) := ev_op ha hb rv_I0
theorem etGt {σ : L2.St} {H : Hp} {ta tb : TE} {i j : Int} (ha : Ev ta σ H (.int i)) (hb : Ev tb σ H (.int j)) : EvT (tTest (tOp (rI0 fun i j => .bl (decide (j < i))) ta tb)) σ H (decide (j < i)) := et_test (ev_op ha hb rv_I0)
theorem tok_ret {σ : L2.St} {H : Hp} {D : Ends} {t1 t2 t3 t4 : TE} {k : Str} {v : V} {a e : Nat} (h1 : Ev t1 σ H (.str k)) (h2 : Ev t2 σ H v) (h3 : Ev t3 σ H (.int (a : Int))) (h4 : Ev t4 σ H (.int (e : Int))) (q : TokQ D.rt H k v a e) :
    tRet (tTup (tCons (tTup (tCons t1 (tCons t2 (tCons t3 tNil)))) (tCons t4 tNil))) D σ H := by
  refine h1 H (Ex.refl _) _ fun H1 e1 => h2 H1 e1 _ fun H2 e2 => h3 H2 (e1.trans e2) _ fun H3 e3 => ⟨(show 3 ≤ sizeLine by decide), fun qa nq => ?_⟩
  have e03 := (e1.trans e2).trans e3
  refine h4 _ (e03.trans (Ex.new nq)) _ fun H4 e4 => ⟨(show 2 ≤ sizeLine by decide), fun p np => ?_⟩
  have hq : H4 qa = some (.tup [.str k, v, .int (a : Int)]) := e4 _ _ upd_same
  exact q p qa _ (((e03.trans (Ex.new nq)).trans e4).trans (Ex.new np)) upd_same ((Ex.new np) _ _ hq)
def spNum : Sp := fun vs H Q _ => ∃ (t : Str) (a n : Nat) (v : Int), vs = [.str t, .int (a : Int)] ∧ t.length ≤ 100000 ∧ a + n ≤ t.length ∧ RunAt t DIG a n ∧ n ≤ 18 ∧ (n ≤ 1 ∨ ∀ c, sgn t a = some c → c ≠ 48) ∧ PySem.intText? (sub t a n) = some v ∧ TokQ Q H "number" (.int v) a (a + n)
section
variable {P : Program} {w : World} {K : PySem.W.Frag} {mg : Str → Option Value} {base : Heap} {f : Addr} {fd : FuncData}
theorem scNum : FnScope ["text", "at", "end"] ["text", "at"] (defScope sNum) := ⟨rfl, rfl, rfl, by decide +kernel, rfl, by decide +kernel, by decide +kernel⟩
theorem ok_num (F : Fun K "number_token" "number_token" sNum f fd) (G : Gs mg) (EO : Df P w K mg base "end_of_row" ["text", "at", "signs"] 1 spEor) : FnOk P w K mg base CX0 2 f fd ["text", "at"] spNum := by
  refine F.ok scNum (fun vs H Q E h => ?_) (fun cdv A outer s H vs Q E hr h => ?_)
  · obtain ⟨t, a, n, v, rfl, _⟩ := h
    rfl
  · obtain ⟨t, a, n, v, rfl, tl, an, run, n18, n0, iv, kQ⟩ := h
    have hr1 : Room 1 _ := hr
    refine ⟨_, pss_cons (ps_set (i := 2) scNum.nd rfl (Or.inl rfl) (pe_df EO hr1 rfl (pa_cons (pv 0) (pa_cons (pv 1) (pa_cons (C8.pe_gc (v := .str DIG) rfl G.digs) pa_nil)))))
      (pss_cons (ps_if (PW.pt (pw_or (pt_cmpR op_gt (pe_op op_sub (pv 2) (pv 1)) (C8.pe_gc (v := .int 18) rfl G.mdig) (nomark _)) (pw_or1 (PW.pt (pw_and (pt_cmpR op_gt (pe_op op_sub (pv 2) (pv 1)) pe_int (nomark _)) (pw_and1 (pt_cmpR op_eq (pe_ix ix_str (pv 0) (pv 1) (fun _ _ => rfl)) pe_str (nomark _)))))))) pss_no pss_nil)
      (pss_one (ps_ret (pe_tup (pa_cons (pe_tup (pa_cons pe_str (pa_cons (pe_callTy call_int_str (by rfl) G.int (by decide +kernel) (pa_cons (pe_slice sl_str (pv 0) (po_some (pv 1)) (po_some (pv 2))) pa_nil)) (pa_cons (pv 1) pa_nil)))) (pa_cons (pv 2) pa_nil)))))), ?_⟩
    refine ⟨_, rfl, _, rfl, t, DIG, a, n, rfl, tl, an, run, fun H1 e1 => ?_⟩
    have len : ∀ {H' : Hp}, Ev (tOp (rI0 fun i j => .int (i - j)) (tVar 2) (tVar 1)) ([some (.str t), some (.int (a : Int)), some (.int ((a + n : Nat) : Int))] : L2.St) H' (.int (n : Int)) := ev_is (evSub (ev_var rfl) (ev_var rfl)) (by rw [show ((a + n : Nat) : Int) - (a : Int) = (n : Int) by omega])
    have zero : decide ((1 : Int) < (n : Int)) = true → Ev (tOp rEq (tOp rIxS (tVar 0) (tVar 1)) (tC (.str "0"))) ([some (.str t), some (.int (a : Int)), some (.int ((a + n : Nat) : Int))] : L2.St) H1 (.bl false) := fun y => by
      have n1 := of_decide_eq_true y
      obtain ⟨c, hc, _⟩ := run.1 0 (by omega)
      have nc := (n0.resolve_left (by omega)) c hc
      refine fun H2 e2 Q q => ⟨_, rfl, _, rfl, t, _, c, rfl, rfl, sz_of tl, atI_nat hc, rfl, ?_⟩
      rw [show decide (V.str ⟨#[c]⟩ = V.str "0") = false from decide_eq_false fun z => nc (by
        have z2 : (⟨#[c]⟩ : Str) = "0" := V.str.inj z
        have z3 : (#[c] : Array Nat) = #[48] := by
          have := congrArg Str.cps z2
          exact this
        simpa using z3)]
      exact q H2 (Ex.refl _)
    refine q_when (b := false) (et_is (et_or (a := decide ((18 : Int) < (n : Int))) (b := decide ((1 : Int) < (n : Int)) && false) (etGt len ev_c) fun _ => et_and (a := decide ((1 : Int) < (n : Int))) (b := false) (etGt len ev_c) fun y => et_test (zero y)) ?_) (fun z => by cases z) fun _ H2 e2 => ?_
    · rw [decide_eq_false (show ¬ (18 : Int) < (n : Int) by omega), Bool.and_false]
      rfl
    · refine tok_ret (k := "number") (v := .int v) ev_c (fun H3 e3 Q q => ⟨_, rfl, _, rfl, _, rfl, _, rfl, _, rfl, t, rfl, sz_of tl, sub t a n, v, ?_, iv, ?_, q H3 (Ex.refl _)⟩) (ev_var rfl) (ev_var rfl) fun p q H' e' => kQ p q H' ((e1.trans e2).trans e')
      · show [V.str (cutS t (some (a : Int)) (some ((a + n : Nat) : Int)))] = _
        rw [cut_sub an]
      · show (((t.cps.toList.drop a).take n).toArray).size ≤ 640
        rw [List.size_toArray, List.length_take]
        omega
end
end K70
set_option maxHeartbeats 4000000
namespace K70
open PySem PySem.Spec PyProof.Rows L2 Evl My LamX
def KWS : List Str := ["if", "else", "while", "for", "in", "try", "tell", "and", "or"]
def SGS : List Str := ["==", "!=", "<=", "=", "<", "+", "-", "*", "(", ")", "{", "}", ",", ";"]
structure Gt (K : PySem.W.Frag) (mg : Str → Option Value) (pK pS : Addr) : Prop where
  g : Gs mg
  kw : mg "KEYWORDS" = some (.ref pK)
  kwT : ∀ H, SqT K H pK (KWS.map V.str)
  sg : mg "SIGNS" = some (.ref pS)
  sgT : ∀ H, SqT K H pS (SGS.map V.str)
theorem inV_strs (w : Str) : ∀ ws : List Str, inV (.str w) (ws.map V.str) = decide (w ∈ ws)
  | [] => rfl
  | x :: ws => by
    have ih := inV_strs w ws
    unfold inV at ih ⊢
    rw [List.map_cons, List.any_cons, ih]
    by_cases e : x = w
    · subst e
      simp [eqV]
    · have e2 : ¬ w = x := fun z => e z.symm
      simp [eqV, e, e2]
theorem flat_strs : ∀ ws : List Str, (ws.map V.str).all flatV = true
  | [] => rfl
  | x :: ws => by
    rw [List.map_cons, List.all_cons, flat_strs ws]
    rfl
theorem ev_cut {σ : L2.St} {H : Hp} {t0 t1 t2 : TE} {t : Str} {a n : Nat} (h0 : Ev t0 σ H (.str t)) (h1 : Ev t1 σ H (.int (a : Int))) (h2 : Ev t2 σ H (.int ((a + n : Nat) : Int))) (tl : t.length ≤ 100000) (an : a + n ≤ t.length) : Ev (tSl rSlS t0 (tPart t1) (tPart t2)) σ H (.str (sub t a n)) := fun H1 e Q q =>
  h0 H1 e _ fun H2 e2 => h1 H2 (e.trans e2) _ fun H3 e3 => ⟨_, rfl, h2 H3 ((e.trans e2).trans e3) _ fun H4 e4 => ⟨_, rfl, t, rfl, sz_of tl, by rw [cut_sub an]; exact q H4 ((e2.trans e3).trans e4)⟩⟩
def wkind (w : Str) : Str := if w ∈ KWS then "sign" else "word"
def spWrd : Sp := fun vs H Q _ => ∃ (t : Str) (a n : Nat), vs = [.str t, .int (a : Int)] ∧ t.length ≤ 100000 ∧ a + n ≤ t.length ∧ RunAt t WSG a n ∧ TokQ Q H (wkind (sub t a n)) (.str (sub t a n)) a (a + n)
section
variable {P : Program} {w : World} {K : PySem.W.Frag} {mg : Str → Option Value} {base : Heap} {f pK pS : Addr} {fd : FuncData}
theorem scWrd : FnScope ["text", "at", "end", "word"] ["text", "at"] (defScope sWrd) := ⟨rfl, rfl, rfl, by decide +kernel, rfl, by decide +kernel, by decide +kernel⟩
theorem ok_wrd (F : Fun K "word_token" "word_token" sWrd f fd) (G : Gt K mg pK pS) (EO : Df P w K mg base "end_of_row" ["text", "at", "signs"] 1 spEor) : FnOk P w K mg base CX0 2 f fd ["text", "at"] spWrd := by
  refine F.ok scWrd (fun vs H Q E h => ?_) (fun cdv A outer s H vs Q E hr h => ?_)
  · obtain ⟨t, a, n, rfl, _⟩ := h
    rfl
  · obtain ⟨t, a, n, rfl, tl, an, run, kQ⟩ := h
    have hr1 : Room 1 _ := hr
    refine ⟨_, pss_cons (ps_set (i := 2) scWrd.nd rfl (Or.inl rfl) (pe_df EO hr1 rfl (pa_cons (pv 0) (pa_cons (pv 1) (pa_cons (C8.pe_gc (v := .str WSG) rfl G.g.wsgs) pa_nil)))))
      (pss_cons (ps_set (i := 3) scWrd.nd rfl (Or.inl rfl) (pe_slice sl_str (pv 0) (po_some (pv 1)) (po_some (pv 2))))
      (pss_one (ps_ret (pe_tup (pa_cons (pe_tup (pa_cons (pe_ifExp (pt_cmpR op_in_seq (pv 3) (pe_glob (v := .ref pK) rfl G.kw rfl) rfl) pe_str pe_str) (pa_cons (pv 3) (pa_cons (pv 1) pa_nil)))) (pa_cons (pv 2) pa_nil)))))), ?_⟩
    refine ⟨_, rfl, _, rfl, t, WSG, a, n, rfl, tl, an, run, fun H1 e1 => ?_⟩
    have cut : Ev (tSl rSlS (tVar 0) (tPart (tVar 1)) (tPart (tVar 2))) ([some (.str t), some (.int (a : Int)), some (.int ((a + n : Nat) : Int)), none] : L2.St) H1 (.str (sub t a n)) := ev_cut (ev_var rfl) (ev_var rfl) (ev_var rfl) tl an
    refine q_asg cut fun H2 e2 => ?_
    have kd : Ev (tIf (tTest (tOp (rIn K false) (tVar 3) (tC (.ref pK)))) (tC (.str "sign")) (tC (.str "word"))) ([some (.str t), some (.int (a : Int)), some (.int ((a + n : Nat) : Int)), some (.str (sub t a n))] : L2.St) H2 (.str (wkind (sub t a n))) := fun H2 e2 Q q => by
      refine ⟨_, rfl, pK, _, rfl, .inr (G.kwT H2), rfl, flat_strs _, _, rfl, ?_⟩
      show if (inV (.str (sub t a n)) (KWS.map V.str)) = true then Q (.str "sign") H2 else Q (.str "word") H2
      rw [inV_strs]
      have q2 := q H2 (Ex.refl _)
      unfold wkind at q2
      by_cases h : sub t a n ∈ KWS
      · rw [decide_eq_true h, if_pos rfl]
        rw [if_pos h] at q2
        exact q2
      · rw [decide_eq_false h, if_neg (by decide)]
        rw [if_neg h] at q2
        exact q2
    exact tok_ret kd (ev_var rfl) (ev_var rfl) (ev_var rfl) fun p q H' e' => kQ p q H' ((e1.trans e2).trans e')
end
end K70
set_option maxHeartbeats 4000000
namespace K70
open PySem PySem.Spec PyProof.Rows L2 Evl My LamX
/-- from a on stand n signs between blank and tilde, none of them a quote, then a quote -/
def QuoteAt (t : Str) (a n : Nat) : Prop := (∀ k, k < n → ∃ c, sgn t (a + k) = some c ∧ c ≠ 34 ∧ 32 ≤ c ∧ c ≤ 126) ∧ sgn t (a + n) = some 34
theorem getD_sgn {t : Str} {i c : Nat} (h : sgn t i = some c) : t.cps.getD i 0 = c := by
  have lt := sgn_lt h
  have lt' : i < t.cps.size := lt
  unfold sgn at h
  rw [Array.getElem?_toList] at h
  rw [Array.getD, dif_pos lt']
  rw [Array.getElem?_eq_getElem lt'] at h
  exact Option.some.inj h
theorem find_quote {t : Str} {a n : Nat} (h : QuoteAt t a n) : Txt.find3 t ⟨#[34]⟩ (a : Int) = ((a + n : Nat) : Int) := by
  have fi : fromIndex t.length (a : Int) = a := by
    unfold fromIndex
    rw [if_neg (by omega)]
    omega
  obtain ⟨h1, h2⟩ := h
  have lt := sgn_lt h2
  rcases PySem.StrLaws.find3_spec t 34 (a : Int) with ⟨_, no⟩ | ⟨k, hk, k1, k2, k3, k4⟩
  · exact absurd (getD_sgn h2) (no (a + n) (by rw [fi]; omega) lt)
  · rw [fi] at k1
    rw [hk]
    have e : k = a + n := by
      rcases Nat.lt_trichotomy k (a + n) with l | l | l
      · obtain ⟨c, hc, nc, _⟩ := h1 (k - a) (by omega)
        rw [show a + (k - a) = k by omega] at hc
        rw [getD_sgn hc] at k3
        exact absurd k3 nc
      · exact l
      · exact absurd (getD_sgn h2) (k4 (a + n) (by rw [fi]; omega) l)
    rw [e]
theorem le1 {c d : Nat} (h : d ≤ c) : ¬ ([c] : List Nat) < [d] := fun z => by
  have := List.cons_lt_cons_iff.mp z
  rcases this with z | ⟨_, z⟩
  · omega
  · cases z
theorem etLt {σ : L2.St} {H : Hp} {ta tb : TE} {i j : Int} (ha : Ev ta σ H (.int i)) (hb : Ev tb σ H (.int j)) : EvT (tTest (tOp (rI0 fun i j => .bl (decide (i < j))) ta tb)) σ H (decide (i < j)) := et_test (ev_op ha hb rv_I0)
theorem evAdd {σ : L2.St} {H : Hp} {ta tb : TE} {i j : Int} (ha : Ev ta σ H (.int i)) (hb : Ev tb σ H (.int j)) : Ev (tOp (rI0 fun i j => .int (i + j)) ta tb) σ H (.int (i + j)) := ev_op ha hb rv_I0
def spTxt : Sp := fun vs H Q _ => ∃ (t : Str) (a n : Nat), vs = [.str t, .int (a : Int)] ∧ t.length ≤ 100000 ∧ QuoteAt t (a + 1) n ∧ TokQ Q H "text" (.str (sub t (a + 1) n)) a (a + 1 + n + 1)
section
variable {P : Program} {w : World} {K : PySem.W.Frag} {mg : Str → Option Value} {base : Heap} {f pK pS : Addr} {fd : FuncData}
theorem scTxt : FnScope ["text", "at", "end", "index"] ["text", "at"] (defScope sTxt) := ⟨rfl, rfl, rfl, by decide +kernel, rfl, by decide +kernel, by decide +kernel⟩
theorem ok_txt (F : Fun K "text_token" "text_token" sTxt f fd) (G : Gt K mg pK pS) : FnOk P w K mg base CX0 1 f fd ["text", "at"] spTxt := by
  refine F.ok scTxt (fun vs H Q E h => ?_) (fun cdv A outer s H vs Q E hr h => ?_)
  · obtain ⟨t, a, n, rfl, _⟩ := h
    rfl
  · obtain ⟨t, a, n, rfl, tl, qa, kQ⟩ := h
    have lt := sgn_lt qa.2
    refine ⟨_, pss_cons (ps_set (i := 2) scTxt.nd rfl (Or.inl rfl) (pe_bm PySem.F.plainAttrs_str PySem.F.slot_str_find PySem.F.type_str_find mt_find3 (pv 0) (pa_cons pe_str (pa_cons (pe_op op_add (pv 1) pe_int) pa_nil))))
      (pss_cons (ps_if (pt_cmpR op_lt (pv 2) pe_int (nomark _)) pss_no pss_nil)
      (pss_cons (ps_for PassesOwn.never rfl (pi_range2 rfl G.g.rng (pa_cons (pe_op op_add (pv 1) pe_int) (pa_cons (pv 2) pa_nil))) (pg_name (i := 3) scTxt.nd rfl (Or.inl rfl)) (pss_one (ps_if (pt_not (pt_chain op_le_str op_le_str pe_str (pe_ix ix_str (pv 0) (pv 3) (fun _ _ => rfl)) pe_str)) pss_no pss_nil)))
      (pss_one (ps_ret (pe_tup (pa_cons (pe_tup (pa_cons pe_str (pa_cons (pe_slice sl_str (pv 0) (po_some (pe_op op_add (pv 1) pe_int)) (po_some (pv 2))) (pa_cons (pv 1) pa_nil)))) (pa_cons (pe_op op_add (pv 2) pe_int) pa_nil))))))), ?_⟩
    have fe : Ev (tBM K "str" (fun x xs H Q => ∃ (a b : Str) (i : Int), x = .str a ∧ xs = [.str b, .int i] ∧ Q (.int (Txt.find3 a b i)) H) (tVar 0) (tCons (tC (.str "\"")) (tCons (tOp (rI0 fun i j => .int (i + j)) (tVar 1) (tC (.int 1))) tNil))) ([some (.str t), some (.int (a : Int)), none, none] : L2.St) H (.int ((a + 1 + n : Nat) : Int)) := fun H1 e1 Q q =>
      ⟨_, rfl, rfl, _, rfl, _, _, rfl, rfl, t, ⟨#[34]⟩, ((a + 1 : Nat) : Int), rfl, rfl, by rw [find_quote qa]; exact q H1 (Ex.refl _)⟩
    refine q_asg fe fun H1 e1 => ?_
    refine q_when (b := false) (et_is (etLt (i := ((a + 1 + n : Nat) : Int)) (j := 0) (ev_var rfl) ev_c) (decide_eq_false (by omega))) (fun z => by cases z) fun _ H2 e2 => ?_
    refine q_forR2 (lo := ((a + 1 : Nat) : Int)) (n := ((a + 1 + n : Nat) : Int)) (ea_cons (ev_is (evAdd (i := (a : Int)) (j := 1) (ev_var rfl) ev_c) rfl) (ea_cons (ev_var rfl) ea_nil)) ⟨by omega, by omega, by omega, by omega⟩
      (fun i σ' H' => Ex H H' ∧ ∃ o : Option V, σ' = [some (.str t), some (.int (a : Int)), some (.int ((a + 1 + n : Nat) : Int)), o]) ?_ ?_ ?_
    · intro H3 e3
      exact ⟨(e1.trans e2).trans e3, _, rfl⟩
    · rintro i σ' H' hi ⟨e, o, rfl⟩
      obtain ⟨c, hc, _, c1, c2⟩ := qa.1 i (by omega)
      have ch : Ev (tChain (fun x y H Q => ∃ i j, x = .str i ∧ y = .str j ∧ Q (.bl (!decide (j.cps.toList < i.cps.toList))) H) (fun x y H Q => ∃ i j, x = .str i ∧ y = .str j ∧ Q (.bl (!decide (j.cps.toList < i.cps.toList))) H) (tC (.str " ")) (tOp rIxS (tVar 0) (tVar 3)) (tC (.str "~"))) ([some (.str t), some (.int (a : Int)), some (.int ((a + 1 + n : Nat) : Int)), some (.int (((a + 1 : Nat) : Int) + (i : Int)))] : L2.St) H' (.bl true) := fun H1 e1 Q q => by
        refine ⟨_, rfl, _, rfl, t, _, c, rfl, rfl, sz_of tl, atI_nat (j := a + 1 + i) hc, " ", ⟨#[c]⟩, rfl, rfl, true, ?_, ?_⟩
        · rw [show decide ((⟨#[c]⟩ : Str).cps.toList < (" " : Str).cps.toList) = false from decide_eq_false (le1 c1)]
          rfl
        · rw [if_pos rfl]
          refine ⟨⟨#[c]⟩, "~", rfl, rfl, ?_⟩
          rw [show decide (("~" : Str).cps.toList < (⟨#[c]⟩ : Str).cps.toList) = false from decide_eq_false (le1 c2)]
          exact q H1 (Ex.refl _)
      exact s_when (b := !true) (et_not (et_test ch)) (fun z => by cases z) fun _ H1 e1 => ⟨e.trans e1, _, rfl⟩
    · rintro σ' H' ⟨e, o, rfl⟩
      exact tok_ret (k := "text") ev_c (ev_cut (a := a + 1) (n := n) (ev_var rfl) (ev_is (evAdd (i := (a : Int)) (j := 1) (ev_var rfl) ev_c) rfl) (ev_var rfl) tl (by omega)) (ev_var rfl) (ev_is (evAdd (i := ((a + 1 + n : Nat) : Int)) (j := 1) (ev_var rfl) ev_c) rfl) fun p q H2 e2 => kQ p q H2 (e.trans e2)
end
end K70
set_option maxHeartbeats 4000000
namespace K70
open PySem PySem.Spec PyProof.Rows L2 Evl My LamX
def cutL (t : Str) (a : Nat) (s : Str) : Str := cutS t (some (a : Int)) (some ((a : Int) + (s.length : Int)))
theorem cut_at {t s : Str} {a k c : Nat} (h : cutL t a s = s) (hk : s.cps.toList[k]? = some c) : sgn t (a + k) = some c := by
  have z := congrArg (fun z : Str => z.cps.toList[k]?) h
  have z2 : (cutL t a s).cps.toList[k]? = some c := z.trans hk
  unfold cutL cutS at z2
  rw [show (a : Int) + (s.length : Int) = ((a + s.length : Nat) : Int) by omega, HT.sIx_nat, HT.sIx_nat] at z2
  have z3 : ((t.cps.toList.drop (min a t.length)).take (min (a + s.length) t.length - min a t.length))[k]? = some c := z2
  have lt : k < min (a + s.length) t.length - min a t.length := by
    have q := (List.getElem?_eq_some_iff.mp z3).1
    rw [List.length_take] at q
    omega
  rw [List.getElem?_take_of_lt lt, List.getElem?_drop] at z3
  rw [show min a t.length = a by omega] at z3
  exact z3
/-- a sign of the list, and no earlier one, stands at a -/
def SignAt (t : Str) (a : Nat) (s : Str) : Prop := ∃ j : Nat, SGS[j]? = some s ∧ cutL t a s = s ∧ ∀ (i : Nat) (s' : Str), i < j → SGS[i]? = some s' → cutL t a s' ≠ s'
def spSgn : Sp := fun vs H Q _ => ∃ (t : Str) (a : Nat) (s : Str), vs = [.str t, .int (a : Int)] ∧ t.length ≤ 100000 ∧ SignAt t a s ∧ TokQ Q H "sign" (.str s) a (a + s.length)
section
variable {P : Program} {w : World} {K : PySem.W.Frag} {mg : Str → Option Value} {base : Heap} {f pK pS : Addr} {fd : FuncData}
theorem scSgn : FnScope ["text", "at", "sign"] ["text", "at"] (defScope sSgn) := ⟨rfl, rfl, rfl, by decide +kernel, rfl, by decide +kernel, by decide +kernel⟩
theorem ok_sgn (F : Fun K "sign_token" "sign_token" sSgn f fd) (G : Gt K mg pK pS) : FnOk P w K mg base CX0 1 f fd ["text", "at"] spSgn := by
  refine F.ok scSgn (fun vs H Q E h => ?_) (fun cdv A outer s H vs Q E hr h => ?_)
  · obtain ⟨t, a, n, rfl, _⟩ := h
    rfl
  · obtain ⟨t, a, s, rfl, tl, ⟨j, hj, hs, no⟩, kQ⟩ := h
    refine ⟨_, pss_cons (ps_for PassesOwn.never rfl (pi_tup (pe_glob (v := .ref pS) rfl G.sg rfl)) (pg_name (i := 2) scSgn.nd rfl (Or.inl rfl)) (pss_one (ps_if (pt_cmpR op_eq (pe_slice sl_str (pv 0) (po_some (pv 1)) (po_some (pe_op op_add (pv 1) (pe_callB call_len (by rfl) G.g.len (by decide +kernel) (pa_cons (pv 2) pa_nil))))) (pv 2) (nomark _))
        (pss_one (ps_ret (pe_tup (pa_cons (pe_tup (pa_cons pe_str (pa_cons (pv 2) (pa_cons (pv 1) pa_nil)))) (pa_cons (pe_op op_add (pv 1) (pe_callB call_len (by rfl) G.g.len (by decide +kernel) (pa_cons (pv 2) pa_nil))) pa_nil))))) pss_nil)))
      (pss_one ps_no), ?_⟩
    have jl : j < 14 := (List.getElem?_eq_some_iff.mp hj).1
    refine q_forT (K := K) (a := pS) (xs := SGS.map V.str) ev_c (G.sgT H) (fun i σ' H' => Ex H H' ∧ i ≤ j ∧ ∃ o : Option V, σ' = [some (.str t), some (.int (a : Int)), o]) ?_ ?_ ?_ ?_
    · intro H1 e1
      exact ⟨e1, Nat.zero_le _, _, rfl⟩
    · rintro i σ' H' _ ⟨e, _⟩
      exact G.sgT H'
    · rintro i x σ' H' hx ⟨e, ij, o, rfl⟩
      obtain ⟨s', hs', rfl⟩ : ∃ s', SGS[i]? = some s' ∧ V.str s' = x := by
        rw [List.getElem?_map] at hx
        cases hz : SGS[i]? with
        | none =>
          rw [hz] at hx
          cases hx
        | some s =>
          rw [hz] at hx
          exact ⟨s, rfl, Option.some.inj hx⟩
      have sl : s'.length ≤ 2 := (by decide +kernel : ∀ z ∈ SGS, z.length ≤ 2) s' (List.mem_of_getElem? hs')
      have lenE : ∀ {H1 : Hp}, Ev (tCB (fun xs H Q => ∃ x n, xs = [x] ∧ LenV K x H n ∧ Q (.int n) H) (tCons (tVar 2) tNil)) ([some (.str t), some (.int (a : Int)), some (.str s')] : L2.St) H1 (.int (s'.length : Int)) := fun H2 e2 Q q => ⟨_, rfl, _, _, rfl, ⟨sz_of (by omega), rfl⟩, q H2 (Ex.refl _)⟩
      have endE : ∀ {H1 : Hp}, Ev (tOp (rI0 fun i j => .int (i + j)) (tVar 1) (tCB (fun xs H Q => ∃ x n, xs = [x] ∧ LenV K x H n ∧ Q (.int n) H) (tCons (tVar 2) tNil))) ([some (.str t), some (.int (a : Int)), some (.str s')] : L2.St) H1 (.int ((a : Int) + (s'.length : Int))) := evAdd (ev_var rfl) lenE
      have eqE : Ev (tOp rEq (tSl rSlS (tVar 0) (tPart (tVar 1)) (tPart (tOp (rI0 fun i j => .int (i + j)) (tVar 1) (tCB (fun xs H Q => ∃ x n, xs = [x] ∧ LenV K x H n ∧ Q (.int n) H) (tCons (tVar 2) tNil))))) (tVar 2)) ([some (.str t), some (.int (a : Int)), some (.str s')] : L2.St) H' (.bl (decide (cutL t a s' = s'))) := fun H1 e1 Q q =>
        ⟨_, rfl, _, rfl, _, rfl, endE H1 (Ex.refl _) _ fun H2 e2 => ⟨_, rfl, t, rfl, sz_of tl, _, rfl, rfl, by
          rw [show decide (V.str (cutS t (some (a : Int)) (some ((a : Int) + (s'.length : Int)))) = V.str s') = decide (cutL t a s' = s') from by
            rw [Bool.eq_iff_iff, decide_eq_true_eq, decide_eq_true_eq]
            exact ⟨fun z => V.str.inj z, fun z => congrArg V.str z⟩]
          exact q H2 e2⟩⟩
      by_cases lt : i < j
      · exact s_when (b := false) (et_is (et_test eqE) (decide_eq_false (no i s' lt hs'))) (fun z => by cases z) fun _ H1 e1 => ⟨e.trans e1, lt, _, rfl⟩
      · have ei : i = j := by omega
        subst ei
        rw [hs'] at hj
        cases hj
        refine s_when (b := true) (et_is (et_test eqE) (decide_eq_true hs)) (fun _ H1 e1 => ?_) fun z => by cases z
        exact tok_ret (k := "sign") ev_c (ev_var rfl) (ev_var rfl) (ev_is endE (by rw [show (a : Int) + (s.length : Int) = ((a + s.length : Nat) : Int) by omega])) fun p q H2 e2 => kQ p q H2 ((e.trans e1).trans e2)
    · rintro σ' H' ⟨_, h, _⟩
      have z : (SGS.map V.str).length = 14 := rfl
      omega
end
/-- a token at a, n signs long -/
inductive Tk (t : Str) (a : Nat) : Nat → Str → V → Prop
  | num {n : Nat} {v : Int} : a + n ≤ t.length → 1 ≤ n → RunAt t DIG a n → n ≤ 18 → (n ≤ 1 ∨ ∀ c, sgn t a = some c → c ≠ 48) → PySem.intText? (sub t a n) = some v → Tk t a n "number" (.int v)
  | wrd {n c : Nat} : a + n ≤ t.length → sgn t a = some c → c ∈ LET.cps.toList → RunAt t WSG a n → Tk t a n (wkind (sub t a n)) (.str (sub t a n))
  | txt {n : Nat} : sgn t a = some 34 → QuoteAt t (a + 1) n → Tk t a (n + 2) "text" (.str (sub t (a + 1) n))
  | sgn {s : Str} {c : Nat} : sgn t a = some c → c ∉ DIG.cps.toList → c ∉ LET.cps.toList → c ≠ 34 → SignAt t a s → Tk t a s.length "sign" (.str s)
def spTat : Sp := fun vs H Q _ => ∃ (t : Str) (a n : Nat) (k : Str) (v : V), vs = [.str t, .int (a : Int)] ∧ t.length ≤ 100000 ∧ Tk t a n k v ∧ TokQ Q H k v a (a + n)
end K70
set_option maxHeartbeats 4000000
namespace K70
open PySem PySem.Spec PyProof.Rows L2 Evl My LamX
theorem TokQ.mono {Q : VK} {H H' : Hp} {k : Str} {v : V} {a e : Nat} (x : Ex H H') (h : TokQ Q H k v a e) : TokQ Q H' k v a e := fun p q H2 e2 => h p q H2 (x.trans e2)
theorem let_dig {c : Nat} (h : c ∈ LET.cps.toList) : c ∉ DIG.cps.toList := (by decide +kernel : ∀ c ∈ LET.cps.toList, c ∉ DIG.cps.toList) c h
theorem q34 : 34 ∉ DIG.cps.toList ∧ 34 ∉ LET.cps.toList := by decide +kernel
section
variable {P : Program} {w : World} {K : PySem.W.Frag} {mg : Str → Option Value} {base : Heap} {f pK pS : Addr} {fd : FuncData}
theorem ev_inS {σ : L2.St} {H : Hp} {t : Str} {a c : Nat} {z : Str} (h0 : σ[0]? = some (some (.str t))) (h1 : σ[1]? = some (some (.int (a : Int)))) (hc : sgn t a = some c) (tl : t.length ≤ 100000) :
    EvT (tTest (tOp (fun x y H Q => ∃ (c : Nat) (z : Str), x = .str ⟨#[c]⟩ ∧ y = .str z ∧ Q (.bl (decide (c ∈ z.cps.toList))) H) (tOp rIxS (tVar 0) (tVar 1)) (tC (.str z)))) σ H (decide (c ∈ z.cps.toList)) := et_test fun H2 e2 Q q =>
  ⟨_, h0, _, h1, t, _, c, rfl, rfl, sz_of tl, atI_nat hc, c, z, rfl, rfl, q H2 (Ex.refl _)⟩
theorem scTat : FnScope ["text", "at"] ["text", "at"] (defScope sTat) := ⟨rfl, rfl, rfl, by decide +kernel, rfl, by decide +kernel, by decide +kernel⟩
theorem ok_tat (F : Fun K "token_at" "token_at" sTat f fd) (G : Gt K mg pK pS) (NU : Df P w K mg base "number_token" ["text", "at"] 2 spNum) (WR : Df P w K mg base "word_token" ["text", "at"] 2 spWrd) (TX : Df P w K mg base "text_token" ["text", "at"] 1 spTxt) (SG : Df P w K mg base "sign_token" ["text", "at"] 1 spSgn) : FnOk P w K mg base CX0 3 f fd ["text", "at"] spTat := by
  refine F.ok scTat (fun vs H Q E h => ?_) (fun cdv A outer s H vs Q E hr h => ?_)
  · obtain ⟨t, a, n, k, v, rfl, _⟩ := h
    rfl
  · obtain ⟨t, a, n, k, v, rfl, tl, tk, kQ⟩ := h
    have hr2 : Room 2 _ := hr
    have hr1 : Room 1 _ := hr2.mono (by decide)
    refine ⟨_, pss_cons (ps_if (pt_cmpR op_in_sign (pe_ix ix_str (pv 0) (pv 1) (fun _ _ => rfl)) (C8.pe_gc (v := .str DIG) rfl G.g.digs) rfl) (pss_one (ps_ret (pe_df NU hr2 rfl (pa_cons (pv 0) (pa_cons (pv 1) pa_nil))))) pss_nil)
      (pss_cons (ps_if (pt_cmpR op_in_sign (pe_ix ix_str (pv 0) (pv 1) (fun _ _ => rfl)) (C8.pe_gc (v := .str LET) rfl G.g.lets) rfl) (pss_one (ps_ret (pe_df WR hr2 rfl (pa_cons (pv 0) (pa_cons (pv 1) pa_nil))))) pss_nil)
      (pss_cons (ps_if (pt_cmpR op_eq (pe_ix ix_str (pv 0) (pv 1) (fun _ _ => rfl)) pe_str (nomark _)) (pss_one (ps_ret (pe_df TX hr1 rfl (pa_cons (pv 0) (pa_cons (pv 1) pa_nil))))) pss_nil)
      (pss_one (ps_ret (pe_df SG hr1 rfl (pa_cons (pv 0) (pa_cons (pv 1) pa_nil))))))), ?_⟩
    have quote : ∀ {H1 : Hp} {c : Nat}, sgn t a = some c → EvT (tTest (tOp rEq (tOp rIxS (tVar 0) (tVar 1)) (tC (.str "\"")))) ([some (.str t), some (.int (a : Int))] : L2.St) H1 (decide (c = 34)) := fun {H1 c} hc => et_test fun H2 e2 Q q => ⟨_, rfl, _, rfl, t, _, c, rfl, rfl, sz_of tl, atI_nat hc, rfl, by
      rw [show decide (V.str ⟨#[c]⟩ = V.str "\"") = decide (c = 34) from by
        rw [Bool.eq_iff_iff, decide_eq_true_eq, decide_eq_true_eq]
        exact ⟨fun z => by
          have z3 : (#[c] : Array Nat) = #[34] := congrArg Str.cps (V.str.inj z)
          simpa using z3, fun z => by rw [z]; rfl⟩]
      exact q H2 (Ex.refl _)⟩
    cases tk with
    | num an n1 run n18 n0 iv =>
      obtain ⟨c, hc, mc⟩ := run.1 0 (by omega)
      refine q_when (b := true) (et_is (ev_inS rfl rfl hc tl) (decide_eq_true mc)) (fun _ H1 e1 => ?_) fun z => by cases z
      exact ⟨_, rfl, _, rfl, t, a, n, _, rfl, tl, an, run, n18, n0, iv, kQ.mono e1⟩
    | wrd an hc mc run =>
      refine q_when (b := false) (et_is (ev_inS rfl rfl hc tl) (decide_eq_false (let_dig mc))) (fun z => by cases z) fun _ H1 e1 => ?_
      refine q_when (b := true) (et_is (ev_inS rfl rfl hc tl) (decide_eq_true mc)) (fun _ H2 e2 => ?_) fun z => by cases z
      exact ⟨_, rfl, _, rfl, t, a, n, rfl, tl, an, run, kQ.mono (e1.trans e2)⟩
    | txt hc qa =>
      rename_i m
      refine q_when (b := false) (et_is (ev_inS rfl rfl hc tl) (decide_eq_false q34.1)) (fun z => by cases z) fun _ H1 e1 => ?_
      refine q_when (b := false) (et_is (ev_inS rfl rfl hc tl) (decide_eq_false q34.2)) (fun z => by cases z) fun _ H2 e2 => ?_
      refine q_when (b := true) (et_is (quote hc) (decide_eq_true rfl)) (fun _ H3 e3 => ?_) fun z => by cases z
      refine ⟨_, rfl, _, rfl, t, a, m, rfl, tl, qa, ?_⟩
      rw [show a + 1 + m + 1 = a + (m + 2) by omega]
      exact kQ.mono ((e1.trans e2).trans e3)
    | sgn hc d l q sa =>
      refine q_when (b := false) (et_is (ev_inS rfl rfl hc tl) (decide_eq_false d)) (fun z => by cases z) fun _ H1 e1 => ?_
      refine q_when (b := false) (et_is (ev_inS rfl rfl hc tl) (decide_eq_false l)) (fun z => by cases z) fun _ H2 e2 => ?_
      refine q_when (b := false) (et_is (quote hc) (decide_eq_false q)) (fun z => by cases z) fun _ H3 e3 => ?_
      exact ⟨_, rfl, _, rfl, t, a, _, rfl, tl, sa, kQ.mono ((e1.trans e2).trans e3)⟩
end
end K70
set_option maxHeartbeats 4000000
namespace K70
open PySem PySem.Spec PyProof.Rows L2 Evl My LamX
abbrev Tok3 := Str × V × Nat
/-- the words of a text from a on, to its end -/
inductive Lay (t : Str) : Nat → List Tok3 → Prop
  | nil : Lay t t.length []
  | cons {a n b : Nat} {k : Str} {v : V} {r : List Tok3} : Tk t a n k v → 1 ≤ n → RunAt t BLK (a + n) b → a + n + b ≤ t.length → Lay t (a + n + b) r → Lay t a ((k, v, a) :: r)
inductive TkL (H : Hp) : List V → List Tok3 → Prop
  | nil : TkL H [] []
  | cons {q : Addr} {x : Tok3} {xs : List V} {r : List Tok3} : H q = some (.tup [.str x.1, x.2.1, .int (x.2.2 : Int)]) → TkL H xs r → TkL H (.ref q :: xs) (x :: r)
theorem TkL.pres {H H' : Hp} (g : ∀ b xs, H b = some (.tup xs) → H' b = some (.tup xs)) {xs : List V} {r : List Tok3} (h : TkL H xs r) : TkL H' xs r := by
  induction h with
  | nil => exact .nil
  | cons h _ ih => exact .cons (g _ _ h) ih
theorem TkL.ext {H H' : Hp} (e : Ex H H') {xs : List V} {r : List Tok3} (h : TkL H xs r) : TkL H' xs r := h.pres fun b ys q => e b _ q
theorem TkL.app {H : Hp} {xs ys : List V} {r u : List Tok3} (h : TkL H xs r) (g : TkL H ys u) : TkL H (xs ++ ys) (r ++ u) := by
  induction h with
  | nil => exact g
  | cons h _ ih => exact .cons h ih
theorem TkL.len {H : Hp} {xs : List V} {r : List Tok3} (h : TkL H xs r) : xs.length = r.length := by
  induction h with
  | nil => rfl
  | cons _ _ ih => rw [List.length_cons, List.length_cons, ih]
theorem Lay.le {t : Str} {a : Nat} {r : List Tok3} (h : Lay t a r) : a + r.length ≤ t.length := by
  induction h with
  | nil => exact Nat.le_refl _
  | cons _ _ _ _ _ ih =>
    rw [List.length_cons]
    omega
def endT (t : Str) : Tok3 := ("end", .str "", t.length)
def spTok : Sp := fun vs H Q _ => ∃ (t : Str) (b : Nat) (items : List Tok3), vs = [.str t] ∧ t.length ≤ 2000 ∧ RunAt t BLK 0 b ∧ Lay t b items ∧ ∀ p xs H', H p = none → Ex H H' → H' p = some (.lst xs) → TkL H' xs (items ++ [endT t]) → Q (.ref p) H'
section
variable {P : Program} {w : World} {K : PySem.W.Frag} {mg : Str → Option Value} {base : Heap} {f pK pS : Addr} {fd : FuncData}
def NT : List Str := ["text", "tokens", "at", "token", "end"]
theorem scTok : FnScope NT ["text"] (defScope sTok) := ⟨rfl, rfl, rfl, by decide +kernel, rfl, by decide +kernel, by decide +kernel⟩
theorem ok_tok (F : Fun K "tokens_of" "tokens_of" sTok f fd) (G : Gs mg) (EO : Df P w K mg base "end_of_row" ["text", "at", "signs"] 1 spEor) (TA : Df P w K mg base "token_at" ["text", "at"] 3 spTat) : FnOk P w K mg base CX0 4 f fd ["text"] spTok := by
  refine F.ok scTok (fun vs H Q E h => ?_) (fun cdv A outer s H vs Q E hr h => ?_)
  · obtain ⟨t, b, items, rfl, _⟩ := h
    rfl
  · obtain ⟨t, b, items, rfl, tl, run, lay, kQ⟩ := h
    have hr3 : Room 3 _ := hr
    have hr1 : Room 1 _ := hr3.mono (by decide)
    refine ⟨_, pss_cons (ps_if (pt_cmpR op_gt (pe_callB call_len (by rfl) G.len (by decide +kernel) (pa_cons (pv 0) pa_nil)) (C8.pe_gc (v := .int 2000) rfl G.lscr) (nomark _)) pss_no pss_nil)
      (pss_cons (ps_set (i := 1) scTok.nd rfl (Or.inl rfl) (pe_lst pa_nil))
      (pss_cons (ps_set (i := 2) scTok.nd rfl (Or.inl rfl) (pe_df EO hr1 rfl (pa_cons (pv 0) (pa_cons pe_int (pa_cons (C8.pe_gc (v := .str BLK) rfl G.blks) pa_nil)))))
      (pss_cons (ps_while PassesOwn.never (pt_cmpR op_lt (pv 2) (pe_callB call_len (by rfl) G.len (by decide +kernel) (pa_cons (pv 0) pa_nil)) (nomark _))
        (pss_cons (ps_asg (pe_df TA hr3 rfl (pa_cons (pv 0) (pa_cons (pv 2) pa_nil))) (pg_tup rfl (pgs_cons (pg_name (i := 3) scTok.nd rfl (Or.inl rfl)) (pgs_cons (pg_name (i := 4) scTok.nd rfl (Or.inl rfl)) pgs_nil))))
        (pss_cons (ps_expr (pe_bm PySem.F.plainAttrs_list PySem.F.slot_list_append PySem.F.type_list_append mt_append (pv 1) (pa_cons (pv 3) pa_nil)))
        (pss_one (ps_set (i := 2) scTok.nd rfl (Or.inl rfl) (pe_df EO hr1 rfl (pa_cons (pv 0) (pa_cons (pv 4) (pa_cons (C8.pe_gc (v := .str BLK) rfl G.blks) pa_nil)))))))))
      (pss_cons (ps_expr (pe_bm PySem.F.plainAttrs_list PySem.F.slot_list_append PySem.F.type_list_append mt_append (pv 1) (pa_cons (pe_tup (pa_cons pe_str (pa_cons pe_str (pa_cons (pe_callB call_len (by rfl) G.len (by decide +kernel) (pa_cons (pv 0) pa_nil)) pa_nil)))) pa_nil)))
      (pss_one (ps_ret (pv 1))))))), ?_⟩
    have lenE : ∀ {σ : L2.St} {H1 : Hp}, σ[0]? = some (some (.str t)) → Ev (tCB (fun xs H Q => ∃ x n, xs = [x] ∧ LenV K x H n ∧ Q (.int n) H) (tCons (tVar 0) tNil)) σ H1 (.int (t.length : Int)) := fun h0 H2 e2 Q q => ⟨_, h0, _, _, rfl, ⟨sz_of (by omega), rfl⟩, q H2 (Ex.refl _)⟩
    refine q_when (b := false) (et_is (etGt (lenE rfl) ev_c) (decide_eq_false (by omega))) (fun z => by cases z) fun _ H1 e1 => ?_
    refine ⟨Nat.zero_le _, fun L nL => ?_⟩
    have nL0 : H L = none := fresh_back e1 nL
    have e2 : Ex H (upd H1 L (.lst [])) := e1.trans (Ex.new nL)
    have hL2 : (upd H1 L (.lst [])) L = some (.lst []) := upd_same
    generalize upd H1 L (.lst []) = H2 at e2 hL2 ⊢
    have bl : b ≤ t.length := by have := lay.le; omega
    refine ⟨_, rfl, t, BLK, 0, b, rfl, by omega, by omega, run, fun H3 e3 => ?_⟩
    refine q_while (fun m σ' H' => ∃ (done rest : List Tok3) (a : Nat) (xs : List V) (o3 o4 : Option V), σ' = [some (.str t), some (.ref L), some (.int (a : Int)), o3, o4] ∧ Ex H H' ∧ H' L = some (.lst xs) ∧ TkL H' xs done ∧ Lay t a rest ∧ items = done ++ rest ∧ rest.length = m) items.length ?_ ?_
    · refine ⟨[], items, b, [], none, none, ?_, e2.trans e3, e3 _ _ hL2, .nil, lay, rfl, rfl⟩
      show ([some (.str t), some (.ref L), some (.int ((0 + b : Nat) : Int)), none, none] : L2.St) = _
      rw [Nat.zero_add]
    · rintro m σ' H' ⟨done, rest, a, xs, o3, o4, rfl, e, hL, tk, ly, it, rm⟩
      cases ly with
      | nil =>
        refine ⟨false, et_is (etLt (ev_var rfl) (lenE rfl)) (decide_eq_false (by omega)), fun z => (by cases z), fun _ H4 e4 => ?_⟩
        have hL4 := e4 _ _ hL
        have tk4 := tk.ext e4
        have xl := tk.len
        have il := lay.le
        rw [it, List.length_append] at il
        refine q_appU hL4 (ev_var rfl) (eu_tup (ea_cons ev_c (ea_cons ev_c (ea_cons (lenE rfl) ea_nil))) (by simp)) (by omega) fun q H5 nq e5 hq => ?_
        have hL5 := e5 _ _ hL4
        have qL : q ≠ L := fun z => by
          rw [z, hL5] at hq
          cases hq
        have tup : ∀ b ys, H5 b = some (.tup ys) → (upd H5 L (.lst (xs ++ [.ref q]))) b = some (.tup ys) := fun b ys h => by
          rw [upd_ne (fun z => by rw [z, hL5] at h; cases h)]
          exact h
        refine ⟨_, rfl, kQ L (xs ++ [.ref q]) _ nL0 (fun b o hb => ?_) upd_same ?_⟩
        · rw [upd_ne (ne_of_none hb nL0)]
          exact ((e.trans e4).trans e5) _ _ hb
        · rw [it, List.append_nil]
          exact ((tk4.ext e5).pres tup).app (.cons (x := endT t) (tup _ _ hq) .nil)
      | cons tk1 n1 br bn ly2 =>
        rename_i n b2 k v r
        refine ⟨true, et_is (etLt (ev_var rfl) (lenE rfl)) (decide_eq_true (by omega)), fun _ H4 e4 => ?_, fun z => (by cases z)⟩
        refine ⟨fun σ2 H2 => ∃ (done rest : List Tok3) (a : Nat) (xs : List V) (o3 o4 : Option V), σ2 = [some (.str t), some (.ref L), some (.int (a : Int)), o3, o4] ∧ Ex H H2 ∧ H2 L = some (.lst xs) ∧ TkL H2 xs done ∧ Lay t a rest ∧ items = done ++ rest ∧ rest.length = r.length, fun σ2 H2 w => ⟨r.length, by rw [← rm, List.length_cons]; exact Nat.lt_succ_self _, w⟩, ?_⟩
        refine ⟨_, rfl, _, rfl, t, a, n, k, v, rfl, by omega, tk1, fun p q H5 e5 hp hq => ?_⟩
        refine ⟨p, _, rfl, st_of hp, rfl, _, _, rfl, _, _, rfl, rfl, ?_⟩
        have hL5 := (e4.trans e5) _ _ hL
        have xl := tk.len
        have il := (Lay.cons tk1 n1 br bn ly2).le
        have dl : done.length ≤ items.length := by rw [it, List.length_append]; omega
        have il2 := lay.le
        refine ⟨_, rfl, .inl ⟨rfl, _, sq_of hL5⟩, _, rfl, L, xs, .ref q, rfl, rfl, hL5, sz_lt (by omega), ?_⟩
        have tup : ∀ b ys, H5 b = some (.tup ys) → (upd H5 L (.lst (xs ++ [.ref q]))) b = some (.tup ys) := fun b ys h => by
          rw [upd_ne (fun z => by rw [z, hL5] at h; cases h)]
          exact h
        refine ⟨_, rfl, _, rfl, t, BLK, a + n, b2, rfl, by omega, bn, br, fun H6 e6 => ?_⟩
        refine ⟨done ++ [(k, v, a)], r, a + n + b2, xs ++ [.ref q], _, _, rfl, fun b o hb => ?_, e6 _ _ upd_same, ?_, ly2, ?_, rfl⟩
        · refine e6 _ _ ?_
          rw [upd_ne (ne_of_none hb nL0)]
          exact ((e.trans e4).trans e5) _ _ hb
        · exact ((((tk.ext (e4.trans e5)).pres tup).app (.cons (x := (k, v, a)) (tup _ _ hq) .nil))).ext e6
        · rw [it, List.append_assoc]
          rfl
end
end K70
set_option maxHeartbeats 4000000
namespace K70
open PySem PySem.Spec PyProof.Rows L2 Evl My LamX
/-- all but what lies at fp stands -/
def But (fp : Addr) (H H' : Hp) : Prop := ∀ b o, b ≠ fp → H b = some o → H' b = some o
theorem But.refl (fp : Addr) (H : Hp) : But fp H H := fun _ _ _ h => h
theorem But.ex {fp : Addr} {H H' H2 : Hp} (b : But fp H H') (e : Ex H' H2) : But fp H H2 := fun a o n h => e a o (b a o n h)
theorem But.upd {fp : Addr} {H H' : Hp} {o : HO} (b : But fp H H') : But fp H (L2.upd H' fp o) := fun a u n h => by
  rw [upd_ne n]
  exact b a u n h
theorem But.of {fp : Addr} {H0 H H' : Hp} (e : Ex H0 H) (n : H0 fp = none) (b : But fp H H') : Ex H0 H' := fun a o h => b a o (ne_of_none h n) (e a o h)
theorem But.trans {p : Addr} {H H1 H2 : Hp} (a : But p H H1) (b : But p H1 H2) : But p H H2 := fun x o n h => b x o n (a x o n h)
theorem But.ofEx {p : Addr} {H H' : Hp} (e : Ex H H') : But p H H' := fun x o _ h => e x o h
structure MD (P : Program) (w : World) (K : PySem.W.Frag) (mg : Str → Option Value) (base : Heap) (C : Addr) (m : Str) (ps : List Str) (k : Nat) (sp : Sp) : Prop where
  ex : ∃ (f : Addr) (fd : FuncData), Meth K C m f ∧ FnOk P w K mg base CX0 k f fd ps sp ∧ Binds K fd ps []
section
variable {X : Cx} {C : Addr} {m : Str} {ps : List Str} {k : Nat} {sp : Sp} {o e : Expr} {es : List Expr} {apos pos : Pos} {ta : TE} {t : TA} {E : XK} {pl : Sem Bool}
theorem pe_md (D : MD X.prog X.w X.K X.mg X.base C m ps k sp) (c : Cls X.K C) (hr : Room k X.A) (he : PE X o ta) (ha : PA X (e :: es) t)
    (hst : starEach (e :: es) X.env = (false, eval e X.env) :: starEach es X.env := by rfl) (hpl : (backTo pos (starEach es X.env)).any (·.1) = false := by rfl)
    (ht : eval (.Call (.Attribute o m apos) (e :: es) [] pos) X.env = (do
      let ov ← eval o X.env
      standAt apos.atName
      let (f, first) ← holding [ov] (getMethod ov m pl)
      callWith pos f first (backTo pos (starEach (e :: es) X.env)) (backToKw pos (keywordEach [] X.env))) := by rfl) :
    PE X (.Call (.Attribute o m apos) (e :: es) [] pos) (tMeth C m sp [] E0 ta t) := by
  obtain ⟨f, fd, hm, F, b⟩ := D.ex
  exact pe_meth he c hm F hr b .nil (fun _ _ _ _ _ _ _ h => h.elim) ha hst hpl ht
theorem pe_md0 (D : MD X.prog X.w X.K X.mg X.base C m ps k sp) (c : Cls X.K C) (hr : Room k X.A) (he : PE X o ta)
    (ht : eval (.Call (.Attribute o m apos) [] [] pos) X.env = (do
      let ov ← eval o X.env
      standAt apos.atName
      let (f, first) ← holding [ov] (getMethod ov m pl)
      callWith pos f first (backTo pos (starEach [] X.env)) (backToKw pos (keywordEach [] X.env))) := by rfl) :
    PE X (.Call (.Attribute o m apos) [] [] pos) (tMeth C m sp [] E0 ta tNil) := by
  obtain ⟨f, fd, hm, F, b⟩ := D.ex
  exact pe_meth0 he c hm F hr b .nil (fun _ _ _ _ _ _ _ h => h.elim) ht
end
mutual
theorem dd_ins {K : PySem.W.Frag} {H H' : Hp} {L C dx : Addr} {fs : List (Str × V)} (hL : H L = some (.ins C dx fs)) (b : But L H H') : ∀ (d : PyData) (v : V), Dd K H v d → Dd K H' v d
  | .none, _, g => by
    cases g
    exact .non
  | .bool b, _, g => by
    cases g
    exact .bl b
  | .int i, _, g => by
    cases g
    exact .int i
  | .str x, _, g => by
    cases g
    exact .str x
  | .list ds, _, g => by
    cases g with
    | @lst a xs _ hs ha =>
      refine .lst ?_ (dds_ins hL b ds _ ha)
      have go : ∀ u, H a = some u → (∀ C dx fs, u ≠ .ins C dx fs) → H' a = some u := fun u h n => b a u (fun z => n C dx fs (Option.some.inj (by rw [← h, z]; exact hL))) h
      rcases hs with (hb | ⟨ob, hb⟩) | hb
      · exact .inl (.inl (go _ hb fun _ _ _ z => nomatch z))
      · exact .inl (.inr ⟨ob, go _ hb fun _ _ _ z => nomatch z⟩)
      · exact .inr hb
  | .tuple ds, _, g => by
    cases g with
    | @tup a xs _ hs ha =>
      refine .tup ?_ (dds_ins hL b ds _ ha)
      have go : ∀ u, H a = some u → (∀ C dx fs, u ≠ .ins C dx fs) → H' a = some u := fun u h n => b a u (fun z => n C dx fs (Option.some.inj (by rw [← h, z]; exact hL))) h
      rcases hs with (hb | ⟨ob, hb⟩) | hb
      · exact .inl (.inl (go _ hb fun _ _ _ z => nomatch z))
      · exact .inl (.inr ⟨ob, go _ hb fun _ _ _ z => nomatch z⟩)
      · exact .inr hb
  | .dict kvs, _, g => by
    cases g with
    | @dct a hb => exact .dct (b a _ (fun z => by rw [z, hL] at hb; cases hb) hb)
theorem dds_ins {K : PySem.W.Frag} {H H' : Hp} {L C dx : Addr} {fs : List (Str × V)} (hL : H L = some (.ins C dx fs)) (b : But L H H') : ∀ (ds : List PyData) (vs : List V), Dds K H vs ds → Dds K H' vs ds
  | [], _, g => by
    cases g
    exact .nil
  | d :: ds, _, g => by
    cases g with
    | cons g1 g2 => exact .cons (dd_ins hL b d _ g1) (dds_ins hL b ds _ g2)
end
end K70
set_option maxHeartbeats 4000000
namespace K70
open PySem PySem.Spec PyProof.Rows L2 Evl My LamX
/-! the class Reader -/
def rdBody : List Stmt := match top 24 with
  | .ClassDef _ _ _ body .. => body
  | _ => []
def rth (i : Nat) : Stmt := rdBody.getD i (.Pass ⟨0, 0, 0, 0⟩)
abbrev rInit : Stmt := rth 0
abbrev rIs : Stmt := rth 2
abbrev rTake : Stmt := rth 3
abbrev rAll : Stmt := rth 5
abbrev rStm : Stmt := rth 8
abbrev rEnd : Stmt := rth 9
abbrev rExp : Stmt := rth 11
abbrev rRow : Stmt := rth 12
abbrev rHas : Stmt := rth 13
abbrev rOpd : Stmt := rth 14
abbrev rStep : Stmt := rth 15
abbrev rCall : Stmt := rth 16
structure RdC (K : PySem.W.Frag) (C : Addr) : Prop where
  cl : Cls K C
  nt : NoAttr K C "tokens"
  np : NoAttr K C "place"
def fsRd (T : Addr) (p : Nat) : List (Str × V) := [("tokens", .ref T), ("place", .int (p : Int))]
structure Rdr (C : Addr) (H : Hp) (R T : Addr) (xs : List V) (toks : List Tok3) (p : Nat) : Prop where
  r : ∃ dx, H R = some (.ins C dx (fsRd T p))
  t : H T = some (.lst xs)
  k : TkL H xs toks
theorem Rdr.ext {C : Addr} {H H' : Hp} {R T : Addr} {xs : List V} {toks : List Tok3} {p : Nat} (e : Ex H H') (h : Rdr C H R T xs toks p) : Rdr C H' R T xs toks p := by
  obtain ⟨⟨dx, r⟩, t, k⟩ := h
  exact ⟨⟨dx, e _ _ r⟩, e _ _ t, k.ext e⟩
theorem Rdr.set {C : Addr} {H : Hp} {R T dx : Addr} {xs : List V} {toks : List Tok3} {p q : Nat} (h : Rdr C H R T xs toks p) : Rdr C (upd H R (.ins C dx (fsRd T q))) R T xs toks q := by
  obtain ⟨⟨dx2, r⟩, t, k⟩ := h
  refine ⟨⟨dx, upd_same⟩, ?_, k.pres fun b ys hb => ?_⟩
  · rw [upd_ne (fun z => by rw [z, r] at t; cases t)]
    exact t
  · rw [upd_ne (fun z => by rw [z, r] at hb; cases hb)]
    exact hb
theorem TkL.get {H : Hp} {xs : List V} {toks : List Tok3} (h : TkL H xs toks) : ∀ {p : Nat} {x : Tok3}, toks[p]? = some x → ∃ q, xs[p]? = some (.ref q) ∧ H q = some (.tup [.str x.1, x.2.1, .int (x.2.2 : Int)]) := by
  induction h with
  | nil =>
    intro p x e
    simp at e
  | cons h _ ih =>
    intro p x e
    cases p with
    | zero =>
      cases e
      exact ⟨_, rfl, h⟩
    | succ p => exact ih (show _ = _ from e)
section
variable {K : PySem.W.Frag} {C R T : Addr} {xs : List V} {toks : List Tok3} {p : Nat} {H : Hp} {σ : L2.St}
theorem ev_toks (c : RdC K C) (h : Rdr C H R T xs toks p) (h0 : σ[0]? = some (some (.ref R))) : Ev (tFld K (tVar 0) "tokens") σ H (.ref T) := fun H1 e Q q => by
  obtain ⟨⟨dx, r⟩, _⟩ := h.ext e
  exact ⟨_, h0, R, C, dx, _, _, rfl, r, c.cl, c.nt, rfl, q H1 (Ex.refl _)⟩
theorem ev_place (c : RdC K C) (h : Rdr C H R T xs toks p) (h0 : σ[0]? = some (some (.ref R))) : Ev (tFld K (tVar 0) "place") σ H (.int (p : Int)) := fun H1 e Q q => by
  obtain ⟨⟨dx, r⟩, _⟩ := h.ext e
  exact ⟨_, h0, R, C, dx, _, _, rfl, r, c.cl, c.np, rfl, q H1 (Ex.refl _)⟩
theorem ev_tok (c : RdC K C) (h : Rdr C H R T xs toks p) {x : Tok3} (hx : toks[p]? = some x) : ∃ q, H q = some (.tup [.str x.1, x.2.1, .int (x.2.2 : Int)]) ∧ ∀ {σ : L2.St}, σ[0]? = some (some (.ref R)) → Ev (tOp (rIxL K) (tFld K (tVar 0) "tokens") (tFld K (tVar 0) "place")) σ H (.ref q) := by
  obtain ⟨q, h1, h2⟩ := h.k.get hx
  exact ⟨q, h2, fun h0 => ev_op (ev_toks c h h0) (ev_place c h h0) (rv_ixL (sq_of h.t) (atI_nat h1))⟩
/-- a, b, c = self.tokens[self.place] -/
theorem q_tok (c : RdC K C) (h : Rdr C H R T xs toks p) {x : Tok3} (hx : toks[p]? = some x) (h0 : σ[0]? = some (some (.ref R))) {i j l : Nat} {tz : TS} {D : Ends}
    (k : ∀ q, H q = some (.tup [.str x.1, x.2.1, .int (x.2.2 : Int)]) → ∀ H1, Ex H H1 → tz D (((σ.set i (some (.str x.1))).set j (some x.2.1)).set l (some (.int (x.2.2 : Int)))) H1) :
    tSeq (tAsg (tOp (rIxL K) (tFld K (tVar 0) "tokens") (tFld K (tVar 0) "place")) (gTup K 3 (gCons (gName i) (gCons (gName j) (gCons (gName l) gNil))))) tz D σ H := by
  obtain ⟨q, hq, ev⟩ := ev_tok c h hx
  refine ev h0 H (Ex.refl _) _ fun H1 e1 => ⟨q, _, rfl, st_of (e1 _ _ hq), rfl, _, _, rfl, _, _, rfl, _, _, rfl, rfl, ?_⟩
  exact k q hq H1 e1
end
/-- what a token holds: a text or an int -/
def Sc (v : V) : Prop := (∃ s, v = .str s) ∨ ∃ i, v = .int i
def spIs (C : Addr) : Sp := fun vs H Q _ => ∃ (R T : Addr) (xs : List V) (toks : List Tok3) (p : Nat) (x : Tok3) (s : Str), vs = [.ref R, .str s] ∧ Rdr C H R T xs toks p ∧ toks[p]? = some x ∧ Sc x.2.1 ∧ ∀ H', Ex H H' → Q (.bl (decide (x.1 = "sign") && decide (x.2.1 = .str s))) H'
def spTake (C : Addr) : Sp := fun vs H Q _ => ∃ (R T : Addr) (xs : List V) (toks : List Tok3) (p a : Nat) (s : Str), vs = [.ref R, .str s] ∧ Rdr C H R T xs toks p ∧ toks[p]? = some (("sign", .str s, a) : Tok3) ∧ ∀ H', But R H H' → Rdr C H' R T xs toks (p + 1) → Q .non H'
section
variable {P : Program} {w : World} {K : PySem.W.Frag} {mg : Str → Option Value} {base : Heap} {f C : Addr} {fd : FuncData}
theorem scIs : FnScope ["self", "sign", "sort", "value", "at"] ["self", "sign"] (defScope rIs) := ⟨rfl, rfl, rfl, by decide +kernel, rfl, by decide +kernel, by decide +kernel⟩
theorem ev_eqS {σ : L2.St} {H : Hp} {ta tb : TE} {v : V} {s : Str} (ha : Ev ta σ H v) (hb : Ev tb σ H (.str s)) (hv : Sc v) : Ev (tOp rEq ta tb) σ H (.bl (decide (v = .str s))) := fun H1 e Q q => ha H1 e _ fun H2 e2 => hb H2 (e.trans e2) _ fun H3 e3 => ⟨by
  rcases hv with ⟨x, rfl⟩ | ⟨i, rfl⟩ <;> rfl, q H3 (e2.trans e3)⟩
theorem dec_str {a b : Str} : decide (V.str a = V.str b) = decide (a = b) := by
  rw [Bool.eq_iff_iff, decide_eq_true_eq, decide_eq_true_eq]
  exact ⟨fun z => V.str.inj z, fun z => congrArg V.str z⟩
theorem ok_is (F : Fun K "is_next" "Reader.is_next" rIs f fd) (c : RdC K C) : FnOk P w K mg base CX0 1 f fd ["self", "sign"] (spIs C) := by
  refine F.ok scIs (fun vs H Q E h => ?_) (fun cdv A outer s H vs Q E hr h => ?_)
  · obtain ⟨R, T, xs, toks, p, x, s, rfl, _⟩ := h
    rfl
  · obtain ⟨R, T, xs, toks, p, x, s, rfl, rd, hx, sx, kQ⟩ := h
    refine ⟨_, pss_cons (ps_asg (pe_ix ix_list (pe_fld (pv 0) rfl) (pe_fld (pv 0) rfl) (fun _ _ => rfl)) (pg_tup rfl (pgs_cons (pg_name (i := 2) scIs.nd rfl (Or.inl rfl)) (pgs_cons (pg_name (i := 3) scIs.nd rfl (Or.inl rfl)) (pgs_cons (pg_name (i := 4) scIs.nd rfl (Or.inl rfl)) pgs_nil)))))
      (pss_one (ps_ret (pe_and (pe_cmpR op_eq (pv 2) pe_str (nomark _)) (pe_one (pe_cmpR op_eq (pv 3) (pv 1) (nomark _)))))), ?_⟩
    refine q_tok c rd hx rfl fun q hq H1 e1 => ?_
    refine s_ret (v := .bl (decide (x.1 = "sign") && decide (x.2.1 = .str s))) (ev_andV (a := decide (x.1 = "sign")) (b := decide (x.2.1 = .str s)) (ev_is (ev_eqS (ev_var rfl) ev_c (.inl ⟨_, rfl⟩)) (congrArg V.bl dec_str)) fun _ => ev_eqS (ev_var rfl) (ev_var rfl) sx) fun H2 e2 => kQ H2 (e1.trans e2)
theorem scTake : FnScope ["self", "sign"] ["self", "sign"] (defScope rTake) := ⟨rfl, rfl, rfl, by decide +kernel, rfl, by decide +kernel, by decide +kernel⟩
theorem ok_take (F : Fun K "take" "Reader.take" rTake f fd) (c : RdC K C) (IS : MD P w K mg base C "is_next" ["self", "sign"] 1 (spIs C)) : FnOk P w K mg base CX0 2 f fd ["self", "sign"] (spTake C) := by
  refine F.ok scTake (fun vs H Q E h => ?_) (fun cdv A outer s H vs Q E hr h => ?_)
  · obtain ⟨R, T, xs, toks, p, x, s, rfl, _⟩ := h
    rfl
  · obtain ⟨R, T, xs, toks, p, a, s, rfl, rd, hx, kQ⟩ := h
    have hr1 : Room 1 _ := hr
    refine ⟨_, pss_cons (ps_if (pt_not (pt_val (pe_md IS c.cl hr1 (pv 0) (pa_cons (pv 1) pa_nil)))) pss_no pss_nil)
      (pss_one (ps_fldaug (pv 0) pe_int in_add)), ?_⟩
    have is : Ev (tMeth C "is_next" (spIs C) [] E0 (tVar 0) (tCons (tVar 1) tNil)) ([some (.ref R), some (.str s)] : L2.St) H (.bl true) := fun H1 e1 Q q => by
      obtain ⟨⟨dx, r⟩, _⟩ := rd.ext e1
      refine ⟨_, rfl, R, dx, _, rfl, r, rfl, _, rfl, R, T, xs, toks, p, ("sign", .str s, a), s, rfl, rd.ext e1, hx, .inl ⟨s, rfl⟩, fun H2 e2 => ?_⟩
      show Q (.bl (decide (("sign" : Str) = "sign") && decide (V.str s = .str s))) H2
      rw [decide_eq_true rfl, decide_eq_true rfl]
      exact q H2 e2
    refine q_when (b := !true) (et_not (et_B is)) (fun z => by cases z) fun _ H1 e1 => ?_
    have rd1 := rd.ext e1
    obtain ⟨⟨dx, r⟩, _⟩ := id rd1
    refine ⟨_, rfl, R, C, dx, _, _, rfl, r, c.cl, c.np, rfl, (p : Int), 1, rfl, rfl, dx, _, r, (by show 2 < 1000; decide), ?_⟩
    have e : putF "place" (V.int ((p : Int) + 1)) (fsRd T p) = fsRd T (p + 1) := rfl
    exact kQ _ ((But.ofEx e1).upd) rd1.set
end
end K70
set_option maxHeartbeats 4000000
namespace K70
open PySem PySem.Spec PyProof.Rows L2 Evl My LamX
abbrev Par := List Tok3 → Nat → Nat → PyData → Prop
def spPar (K : PySem.W.Frag) (C : Addr) (args : List V) (O : Par) : Sp := fun vs H Q _ => ∃ (R T : Addr) (xs : List V) (toks : List Tok3) (p p' : Nat) (d : PyData), vs = .ref R :: args ∧ Rdr C H R T xs toks p ∧ O toks p p' d ∧ ∀ v H', But R H H' → Rdr C H' R T xs toks p' → Dd K H' v d → Q v H'
/-- behind it stands ; or ) -/
def Nxt (toks : List Tok3) (p : Nat) : Prop := ∃ (z : Str) (a : Nat), toks[p]? = some (("sign", .str z, a) : Tok3) ∧ (z = ";" ∨ z = ")")
inductive PO0 (toks : List Tok3) : Nat → Nat → PyData → Prop
  | num {p a : Nat} {i : Int} : toks[p]? = some (("number", .int i, a) : Tok3) → Nxt toks (p + 1) → PO0 toks p (p + 1) (.tuple [.str "number", .int i])
  | txt {p a : Nat} {s : Str} : toks[p]? = some (("text", .str s, a) : Tok3) → Nxt toks (p + 1) → PO0 toks p (p + 1) (.tuple [.str "text", .str s])
  | var {p a : Nat} {s : Str} : toks[p]? = some (("word", .str s, a) : Tok3) → Nxt toks (p + 1) → PO0 toks p (p + 1) (.tuple [.str "variable", .str s])
theorem PO0.nx {toks : List Tok3} {p p' : Nat} {d : PyData} (h : PO0 toks p p' d) : Nxt toks p' := by
  cases h <;> assumption
section
variable {K : PySem.W.Frag} {C R T : Addr} {xs : List V} {toks : List Tok3} {p : Nat} {H : Hp} {σ : L2.St} {s : Str} {x : Tok3}
theorem ev_isn {t : TA} (rd : Rdr C H R T xs toks p) (hx : toks[p]? = some x) (sx : Sc x.2.1) (h0 : σ[0]? = some (some (.ref R))) (ht : EvA t σ H [.str s]) : Ev (tMeth C "is_next" (spIs C) [] E0 (tVar 0) t) σ H (.bl (decide (x.1 = "sign") && decide (x.2.1 = .str s))) := fun H1 e1 Q q => by
  obtain ⟨⟨dx, r⟩, _⟩ := rd.ext e1
  exact ⟨_, h0, R, dx, _, rfl, r, rfl, ht H1 e1 _ fun H2 e2 => ⟨R, T, xs, toks, p, x, s, rfl, rd.ext (e1.trans e2), hx, sx, fun H3 e3 => q H3 (e2.trans e3)⟩⟩
theorem sc_s {x : Str} : Sc (.str x) := .inl ⟨x, rfl⟩
theorem sc_i {x : Int} : Sc (.int x) := .inr ⟨x, rfl⟩
end
def kinds3 : List Str := ["number", "text", "word"]
/-- self.place += 1 -/
theorem q_place {K : PySem.W.Frag} {C R T : Addr} {xs : List V} {toks : List Tok3} {p : Nat} {H : Hp} {σ : L2.St} {tz : TS} {D : Ends} {m : Int} {te : TE} {n : Nat} (c : RdC K C) (rd : Rdr C H R T xs toks p) (h0 : σ[0]? = some (some (.ref R))) (ht : Ev te σ H (.int m)) (hm : (p : Int) + m = ((p + n : Nat) : Int)) (k : ∀ H1, But R H H1 → Rdr C H1 R T xs toks (p + n) → tz D σ H1) : tSeq (sFldAug K (tVar 0) te rAdd "place") tz D σ H := by
  obtain ⟨⟨dx, r⟩, _⟩ := id rd
  refine ⟨_, h0, R, C, dx, _, _, rfl, r, c.cl, c.np, rfl, ht H (Ex.refl _) _ fun H1 e1 => ⟨(p : Int), m, rfl, rfl, dx, _, e1 _ _ r, (by show 2 < 1000; decide), ?_⟩⟩
  have e : putF "place" (V.int ((p : Int) + m)) (fsRd T p) = fsRd T (p + n) := by
    rw [hm]
    rfl
  rw [e]
  exact k _ ((But.ofEx e1).upd) (rd.ext e1).set
theorem ev_notin {K : PySem.W.Frag} {σ : L2.St} {H : Hp} {k : Str} (h2 : σ[2]? = some (some (.str k))) (mk : k ∈ kinds3) : Ev (tOp (rIn K true) (tVar 2) (tTup (tCons (tC (.str "number")) (tCons (tC (.str "text")) (tCons (tC (.str "word")) tNil))))) σ H (.bl false) := fun H1 e Q q =>
  ⟨_, h2, eu_tup (vs := kinds3.map V.str) (ea_cons ev_c (ea_cons ev_c (ea_cons ev_c ea_nil))) (by decide) H1 (Ex.refl _) _ fun p H2 np e2 hp => ⟨p, _, rfl, .inr (st_of hp), rfl, flat_strs kinds3, by
    show Q (.bl (!inV (.str k) (kinds3.map V.str))) H2
    rw [inV_strs, decide_eq_true mk]
    exact q H2 e2⟩⟩
/-- two parts, as a datum -/
theorem s_two {K : PySem.W.Frag} {σ : L2.St} {H : Hp} {D : Ends} {ta tb : TE} {a b : PyData} (ha : EvD K ta σ H a) (hb : EvD K tb σ H b) (k : ∀ v H1, Ex H H1 → Dd K H1 v (.tuple [a, b]) → D.rt v H1) : tRet (tTup (tCons ta (tCons tb tNil))) D σ H := ed_tup (eds_cons ha (eds_cons hb eds_nil)) (show 2 ≤ 100000 by decide) H (Ex.refl _) _ k
theorem PO0.tok {toks : List Tok3} {p p' : Nat} {d : PyData} (h : PO0 toks p p' d) : ∃ x : Tok3, toks[p]? = some x ∧ x.1 ∈ kinds3 ∧ Sc x.2.1 ∧ p' = p + 1 ∧ Nxt toks (p + 1) ∧ ((x.1 ≠ "word" ∧ ∀ K H, ∃ dv, Dd K H x.2.1 dv ∧ d = .tuple [.str x.1, dv]) ∨ (x.1 = "word" ∧ ∃ s, x.2.1 = .str s ∧ d = .tuple [.str "variable", .str s])) := by
  cases h with
  | num h n => exact ⟨_, h, (by decide +kernel : ("number" : Str) ∈ kinds3), sc_i, rfl, n, .inl ⟨(by decide +kernel : ("number" : Str) ≠ "word"), fun K H => ⟨_, .int _, rfl⟩⟩⟩
  | txt h n => exact ⟨_, h, (by decide +kernel : ("text" : Str) ∈ kinds3), sc_s, rfl, n, .inl ⟨(by decide +kernel : ("text" : Str) ≠ "word"), fun K H => ⟨_, .str _, rfl⟩⟩⟩
  | var h n => exact ⟨_, h, (by decide +kernel : ("word" : Str) ∈ kinds3), sc_s, rfl, n, .inr ⟨rfl, _, rfl, rfl⟩⟩
theorem k3_sign {k : Str} (h : k ∈ kinds3) : decide (k = "sign") = false := decide_eq_false ((by decide +kernel : ∀ k ∈ kinds3, ¬ k = "sign") k h)
theorem But.left {p : Addr} {H0 H H' : Hp} (e : Ex H0 H) (b : But p H H') : But p H0 H' := fun a o n h => b a o n (e a o h)
section
variable {P : Program} {w : World} {K : PySem.W.Frag} {mg : Str → Option Value} {base : Heap} {f C : Addr} {fd : FuncData}
def NO : List Str := ["self", "depth", "sort", "value", "at", "expression"]
theorem scOpd : FnScope NO ["self", "depth"] (defScope rOpd) := ⟨rfl, rfl, rfl, by decide +kernel, rfl, by decide +kernel, by decide +kernel⟩
theorem ok_opd0 {dep : Int} (F : Fun K "operand" "Reader.operand" rOpd f fd) (c : RdC K C) (IS : MD P w K mg base C "is_next" ["self", "sign"] 1 (spIs C)) : FnOk P w K mg base CX0 2 f fd ["self", "depth"] (spPar K C [.int dep] PO0) := by
  refine F.ok scOpd (fun vs H Q E h => ?_) (fun cdv A outer s H vs Q E hr h => ?_)
  · obtain ⟨R, T, xs, toks, p, p', d, rfl, _⟩ := h
    rfl
  · obtain ⟨R, T, xs, toks, p, p', d, rfl, rd, po, kQ⟩ := h
    have hr1 : Room 1 _ := hr
    refine ⟨_, pss_cons (ps_asg (pe_ix ix_list (pe_fld (pv 0) rfl) (pe_fld (pv 0) rfl) (fun _ _ => rfl)) (pg_tup rfl (pgs_cons (pg_name (i := 2) scOpd.nd rfl (Or.inl rfl)) (pgs_cons (pg_name (i := 3) scOpd.nd rfl (Or.inl rfl)) (pgs_cons (pg_name (i := 4) scOpd.nd rfl (Or.inl rfl)) pgs_nil)))))
      (pss_cons (ps_if (pt_val (pe_md IS c.cl hr1 (pv 0) (pa_cons pe_str pa_nil))) pss_no pss_nil)
      (pss_cons (ps_if (pt_cmpR op_notIn_seq (pv 2) (pe_tup (pa_cons pe_str (pa_cons pe_str (pa_cons pe_str pa_nil)))) rfl) pss_no pss_nil)
      (pss_cons (ps_fldaug (pv 0) pe_int in_add)
      (pss_cons (ps_if (pt_cmpR op_ne (pv 2) pe_str (nomark _)) (pss_one (ps_ret (pe_tup (pa_cons (pv 2) (pa_cons (pv 3) pa_nil))))) pss_nil)
      (pss_cons (ps_if (pt_val (pe_md IS c.cl hr1 (pv 0) (pa_cons pe_str pa_nil))) pss_no pss_nil)
      (pss_one (ps_ret (pe_tup (pa_cons pe_str (pa_cons (pv 3) pa_nil)))))))))), ?_⟩
    obtain ⟨x, hx, mk, sx, rfl, nx, alt⟩ := po.tok
    refine q_tok c rd hx rfl fun q hq H1 e1 => ?_
    refine q_when (b := false) (et_is (et_B (ev_isn (rd.ext e1) hx sx rfl (ea_cons ev_c ea_nil))) (by rw [k3_sign mk, Bool.false_and])) (fun z => by cases z) fun _ H2 e2 => ?_
    refine q_when (b := false) (et_test (ev_notin rfl mk)) (fun z => by cases z) fun _ H3 e3 => ?_
    have e03 := (e1.trans e2).trans e3
    refine q_place (n := 1) c (rd.ext e03) rfl ev_c rfl fun H4 b4 rd4 => ?_
    have b04 : But R H H4 := But.left e03 b4
    rcases alt with ⟨nw, hd⟩ | ⟨ew, s, es, ed⟩
    · refine q_when (b := true) (et_is (et_test (ev_op (ev_var rfl) ev_c (rv_ne rfl))) ?_) (fun _ H5 e5 => ?_) fun z => by cases z
      · rw [decide_eq_false (fun z => nw (V.str.inj z))]
        rfl
      · obtain ⟨dv, g, rfl⟩ := hd K H5
        exact s_two (ed_str (ev_var rfl)) (ed_var rfl g) fun v H6 e6 g6 => kQ v H6 (b04.ex (e5.trans e6)) (rd4.ext (e5.trans e6)) g6
    · obtain ⟨z, az, hz, zz⟩ := nx
      refine q_when (b := false) (et_is (et_test (ev_op (ev_var rfl) ev_c (rv_ne rfl))) ?_) (fun z => by cases z) fun _ H5 e5 => ?_
      · rw [ew, decide_eq_true rfl]
        rfl
      · refine q_when (b := false) (et_is (et_B (ev_isn (rd4.ext e5) hz sc_s rfl (ea_cons ev_c ea_nil))) ?_) (fun z => by cases z) fun _ H6 e6 => ?_
        · rw [decide_eq_false (show ¬ V.str z = V.str "(" from fun w => by
            have := V.str.inj w
            rcases zz with rfl | rfl <;> exact absurd this (by decide +kernel)), Bool.and_false]
        · rw [ed] at kQ
          refine s_two (ed_str ev_c) (ed_str (ev_is (ev_var rfl) es)) fun v H7 e7 g7 => kQ v H7 (b04.ex ((e5.trans e6).trans e7)) (rd4.ext ((e5.trans e6).trans e7)) g7
end
end K70
set_option maxHeartbeats 4000000
namespace K70
open PySem PySem.Spec PyProof.Rows L2 Evl My LamX
def ttNo : TT := fun _ _ _ => False
theorem pt_no {X : Cx} {e : Expr} : PT X e ttNo := ⟨fun _ _ _ _ _ _ h => False.elim h⟩
def GRS : List (List Str) := [["or"], ["and"], ["==", "!=", "<", "<="], ["+", "-"], ["*"]]
structure Gr (K : PySem.W.Frag) (mg : Str → Option Value) (pG : Addr) (gs : List Addr) : Prop where
  g : mg "GROUPS" = some (.ref pG)
  len : mg "len" = none
  n : gs.length = 5
  t : ∀ H, SqT K H pG (gs.map V.ref)
  at_ : ∀ (H : Hp) (i : Nat) (a : Addr), gs[i]? = some a → ∃ ws, GRS[i]? = some ws ∧ SqT K H a (ws.map V.str)
theorem grs_no {i : Nat} {ws : List Str} (h : GRS[i]? = some ws) {z : Str} (hz : z = ";" ∨ z = ")") : z ∉ ws := by
  have m := List.mem_of_getElem? h
  rcases hz with rfl | rfl
  · exact (by decide +kernel : ∀ ws ∈ GRS, (";" : Str) ∉ ws) ws m
  · exact (by decide +kernel : ∀ ws ∈ GRS, (")" : Str) ∉ ws) ws m
def spHas (C : Addr) : Sp := fun vs H Q _ => ∃ (R T : Addr) (xs : List V) (toks : List Tok3) (p g : Nat), vs = [.ref R, .int (g : Int)] ∧ g < 5 ∧ Rdr C H R T xs toks p ∧ Nxt toks p ∧ ∀ H', Ex H H' → Q (.bl false) H'
section
variable {P : Program} {w : World} {K : PySem.W.Frag} {mg : Str → Option Value} {base : Heap} {f C pG : Addr} {gs : List Addr} {fd : FuncData}
theorem scHas : FnScope ["self", "group", "sort", "value", "at"] ["self", "group"] (defScope rHas) := ⟨rfl, rfl, rfl, by decide +kernel, rfl, by decide +kernel, by decide +kernel⟩
theorem ok_has (F : Fun K "has_operator" "Reader.has_operator" rHas f fd) (c : RdC K C) (G : Gr K mg pG gs) : FnOk P w K mg base CX0 1 f fd ["self", "group"] (spHas C) := by
  refine F.ok scHas (fun vs H Q E h => ?_) (fun cdv A outer s H vs Q E hr h => ?_)
  · obtain ⟨R, T, xs, toks, p, g, rfl, _⟩ := h
    rfl
  · obtain ⟨R, T, xs, toks, p, g, rfl, g5, rd, ⟨z, a, hz, zz⟩, kQ⟩ := h
    refine ⟨_, pss_cons (ps_asg (pe_ix ix_list (pe_fld (pv 0) rfl) (pe_fld (pv 0) rfl) (fun _ _ => rfl)) (pg_tup rfl (pgs_cons (pg_name (i := 2) scHas.nd rfl (Or.inl rfl)) (pgs_cons (pg_name (i := 3) scHas.nd rfl (Or.inl rfl)) (pgs_cons (pg_name (i := 4) scHas.nd rfl (Or.inl rfl)) pgs_nil)))))
      (pss_one (ps_ret (pe_and (pe_cmpR op_eq (pv 2) pe_str (nomark _)) (pe_one (pe_cmpR op_in_seq (pv 3) (pe_ix ix_tup (pe_glob (v := .ref pG) rfl G.g rfl) (pv 1) (fun _ _ => rfl)) rfl))))), ?_⟩
    refine q_tok c rd hz rfl fun q hq H1 e1 => ?_
    obtain ⟨ga, hg⟩ : ∃ ga, gs[g]? = some ga := ⟨_, List.getElem?_eq_getElem (by rw [G.n]; exact g5)⟩
    have inE : Ev (tOp (rIn K false) (tVar 3) (tOp (rIxT K) (tC (.ref pG)) (tVar 1))) ([some (.ref R), some (.int (g : Int)), some (.str "sign"), some (.str z), some (.int (a : Int))] : L2.St) H1 (.bl false) := fun H2 e2 Q q => by
      obtain ⟨ws, hw, tw⟩ := G.at_ H2 g ga hg
      refine ⟨_, rfl, _, rfl, pG, _, (g : Int), .ref ga, rfl, rfl, G.t H2, atI_nat (by rw [List.getElem?_map, hg]; rfl), ga, _, rfl, .inr tw, rfl, flat_strs ws, ?_⟩
      show Q (.bl (inV (.str z) (ws.map V.str))) H2
      rw [inV_strs, decide_eq_false (grs_no hw zz)]
      exact q H2 (Ex.refl _)
    exact s_ret (v := .bl (decide (V.str "sign" = V.str "sign") && false)) (ev_andV (ev_eqS (ev_var rfl) ev_c sc_s) fun _ => inE) fun H2 e2 => by
      rw [Bool.and_false]
      exact kQ H2 (e1.trans e2)
def NR : List Str := ["self", "group", "depth", "operands", "operators"]
theorem scRow : FnScope NR ["self", "group", "depth"] (defScope rRow) := ⟨rfl, rfl, rfl, by decide +kernel, rfl, by decide +kernel, by decide +kernel⟩
theorem ev_lenG {σ : L2.St} {H : Hp} (G : Gr K mg pG gs) : Ev (tCB (rLenS K) (tCons (tC (.ref pG)) tNil)) σ H (.int 5) := fun H1 e Q q => ⟨pG, _, rfl, .inr (G.t H1), by
  rw [List.length_map, G.n]
  exact q H1 (Ex.refl _)⟩
theorem ok_row5 {k : Nat} {dep : Int} {O : Par} (F : Fun K "row" "Reader.row" rRow f fd) (c : RdC K C) (G : Gr K mg pG gs) (OP : MD P w K mg base C "operand" ["self", "depth"] k (spPar K C [.int dep] O)) : FnOk P w K mg base CX0 (k + 1) f fd ["self", "group", "depth"] (spPar K C [.int 5, .int dep] O) := by
  refine F.ok scRow (fun vs H Q E h => ?_) (fun cdv A outer s H vs Q E hr h => ?_)
  · obtain ⟨R, T, xs, toks, p, p', d, rfl, _⟩ := h
    rfl
  · obtain ⟨R, T, xs, toks, p, p', d, rfl, rd, po, kQ⟩ := h
    have hrk : Room k _ := hr
    refine ⟨_, pss_cons (ps_if (pt_cmpR op_eq (pv 1) (pe_callB call_len_seq (by rfl) G.len PySem.boot_len (pa_cons (pe_glob (v := .ref pG) rfl G.g rfl) pa_nil)) (nomark _)) (pss_one (ps_ret (pe_md OP c.cl hrk (pv 0) (pa_cons (pv 2) pa_nil)))) pss_nil) pss_no, ?_⟩
    have t5 : Ev (tOp rEq (tVar 1) (tCB (rLenS K) (tCons (tC (.ref pG)) tNil))) ([some (.ref R), some (.int 5), some (.int dep), none, none] : L2.St) H (.bl true) := fun H1 e Q q => ⟨_, rfl, ev_lenG G H1 (Ex.refl _) _ fun H2 e2 => ⟨rfl, by
      rw [decide_eq_true rfl]
      exact q H2 e2⟩⟩
    refine q_when (b := true) (et_test t5) (fun _ H1 e1 => ?_) fun z => by cases z
    obtain ⟨⟨dx, r⟩, _⟩ := rd.ext e1
    exact ⟨_, rfl, R, dx, _, rfl, r, rfl, _, rfl, R, T, xs, toks, p, p', d, rfl, rd.ext e1, po, fun v H2 b2 rd2 g2 => kQ v H2 (But.left e1 b2) rd2 g2⟩
theorem ok_rowg {k g : Nat} {dep : Int} {O : Par} (g5 : g < 5) (F : Fun K "row" "Reader.row" rRow f fd) (c : RdC K C) (G : Gr K mg pG gs) (k1 : 1 ≤ k) (HAS : MD P w K mg base C "has_operator" ["self", "group"] 1 (spHas C)) (RW : MD P w K mg base C "row" ["self", "group", "depth"] k (spPar K C [.int ((g + 1 : Nat) : Int), .int dep] O)) (hn : ∀ toks p p' d, O toks p p' d → Nxt toks p') :
    FnOk P w K mg base CX0 (k + 1) f fd ["self", "group", "depth"] (spPar K C [.int (g : Int), .int dep] O) := by
  refine F.ok scRow (fun vs H Q E h => ?_) (fun cdv A outer s H vs Q E hr h => ?_)
  · obtain ⟨R, T, xs, toks, p, p', d, rfl, _⟩ := h
    rfl
  · obtain ⟨R, T, xs, toks, p, p', d, rfl, rd, po, kQ⟩ := h
    have hrk : Room k _ := hr
    have hr1 : Room 1 _ := hrk.mono k1
    refine ⟨_, pss_cons (ps_if (pt_cmpR op_eq (pv 1) (pe_callB call_len_seq (by rfl) G.len PySem.boot_len (pa_cons (pe_glob (v := .ref pG) rfl G.g rfl) pa_nil)) (nomark _)) pss_no pss_nil)
      (pss_cons (ps_set (i := 3) scRow.nd rfl (Or.inl rfl) (pe_lst (pa_cons (pe_md RW c.cl hrk (pv 0) (pa_cons (pe_op op_add (pv 1) pe_int) (pa_cons (pv 2) pa_nil))) pa_nil)))
      (pss_cons (ps_set (i := 4) scRow.nd rfl (Or.inl rfl) (pe_lst pa_nil))
      (pss_cons (ps_while PassesOwn.never (PW.pt (pw_and (pt_val (pe_md HAS c.cl hr1 (pv 0) (pa_cons (pv 1) pa_nil))) (pw_and1 pt_no))) pss_no)
      (pss_cons (ps_if (pt_not (pt_truth (pv 4) (fun _ => rfl))) (pss_one (ps_ret (pe_ix ix_list (pv 3) pe_int (fun _ _ => rfl)))) pss_nil)
      (pss_one ps_no))))), ?_⟩
    have t5 : Ev (tOp rEq (tVar 1) (tCB (rLenS K) (tCons (tC (.ref pG)) tNil))) ([some (.ref R), some (.int (g : Int)), some (.int dep), none, none] : L2.St) H (.bl false) := fun H1 e Q q => ⟨_, rfl, ev_lenG G H1 (Ex.refl _) _ fun H2 e2 => ⟨rfl, by
      rw [decide_eq_false (fun z => by
        have := V.int.inj z
        omega)]
      exact q H2 e2⟩⟩
    refine q_when (b := false) (et_test t5) (fun z => by cases z) fun _ H1 e1 => ?_
    obtain ⟨⟨dx, r⟩, _⟩ := rd.ext e1
    refine ⟨_, rfl, R, dx, _, rfl, r, rfl, evAdd (i := (g : Int)) (j := 1) (ev_var rfl) ev_c H1 (Ex.refl _) _ fun H2 e2 => ⟨_, rfl, R, T, xs, toks, p, p', d, rfl, rd.ext (e1.trans e2), po, fun v H3 b3 rd3 g3 => ⟨(show 1 ≤ sizeLine by decide), fun l nl => ?_⟩⟩⟩
    have b03 : But R H H3 := But.left (e1.trans e2) b3
    refine ⟨Nat.zero_le _, fun l2 nl2 => ?_⟩
    have e35 : Ex H3 (upd (upd H3 l (.lst [v])) l2 (.lst [])) := (Ex.new nl).trans (Ex.new nl2)
    have hl : (upd (upd H3 l (.lst [v])) l2 (.lst [])) l = some (.lst [v]) := (Ex.new nl2) _ _ upd_same
    have hl2 : (upd (upd H3 l (.lst [v])) l2 (.lst [])) l2 = some (.lst []) := upd_same
    generalize upd (upd H3 l (.lst [v])) l2 (.lst []) = H5 at e35 hl hl2 ⊢
    have rd5 := rd3.ext e35
    refine q_while (fun m σ' H' => σ' = [some (.ref R), some (.int (g : Int)), some (.int dep), some (.ref l), some (.ref l2)] ∧ Ex H5 H') 0 ⟨rfl, Ex.refl _⟩ ?_
    rintro m σ' H6 ⟨rfl, e6⟩
    have has : EvT (tB (tMeth C "has_operator" (spHas C) [] E0 (tVar 0) (tCons (tVar 1) tNil))) ([some (.ref R), some (.int (g : Int)), some (.int dep), some (.ref l), some (.ref l2)] : L2.St) H6 false := et_B fun H7 e7 Q q => by
      obtain ⟨⟨dx7, r7⟩, _⟩ := rd5.ext (e6.trans e7)
      exact ⟨_, rfl, R, dx7, _, rfl, r7, rfl, _, rfl, R, T, xs, toks, p', g, rfl, g5, rd5.ext (e6.trans e7), hn _ _ _ _ po, fun H8 e8 => q H8 e8⟩
    refine ⟨false, et_is (et_and (a := false) (b := false) has fun z => by cases z) rfl, fun z => (by cases z), fun _ H7 e7 => ?_⟩
    have nt : EvT (tNot fun σ H Q => tVar 4 σ H fun x H' => ∃ k, TruV K x H' k ∧ Q k H') ([some (.ref R), some (.int (g : Int)), some (.int dep), some (.ref l), some (.ref l2)] : L2.St) H7 (!false) := et_not fun H8 e8 Q q => ⟨_, rfl, false, .inl ⟨_, sq_of ((e6.trans (e7.trans e8)) _ _ hl2), rfl⟩, q H8 (Ex.refl _)⟩
    refine q_when (b := !false) nt (fun _ H8 e8 => ?_) fun z => by cases z
    have e38 := ((e35.trans e6).trans e7).trans e8
    exact s_ret (v := v) (ev_op (ev_var rfl) ev_c (rv_ixL (i := 0) (sq_of (((e6.trans e7).trans e8) _ _ hl)) (atI_nat (j := 0) rfl))) fun H9 e9 => kQ v H9 (b03.ex (e38.trans e9)) (rd3.ext (e38.trans e9)) (Dd.ext (e38.trans e9) _ _ g3)
end
end K70
set_option maxHeartbeats 4000000
namespace K70
open PySem PySem.Spec PyProof.Rows L2 Evl My LamX
def callW : List Str := ["find", "written", "size", "not"]
structure Ar (K : PySem.W.Frag) (w : World) (mg : Str → Option Value) (pA : Addr) (es : Array DictEntry) (n : Nat) : Prop where
  g : mg "ARGUMENTS" = some (.ref pA)
  d : KDict K w pA es n
  at_ : ∀ z ∈ callW, ∃ (u : Addr) (y : V), PySem.W.nsIn K pA z = some (some (.ref u)) ∧ ∀ H, SqT K H u [y]
theorem but_none {R L : Addr} {H H1 : Hp} (b : But R H H1) (n : H1 L = none) (ne : L ≠ R) : H L = none := by
  cases h : H L with
  | none => rfl
  | some o =>
    rw [b _ _ ne h] at n
    cases n
theorem spPar.at {K : PySem.W.Frag} {C R T : Addr} {args : List V} {O : Par} {xs : List V} {toks : List Tok3} {p p' : Nat} {d : PyData} {H : Hp} {Q : VK} {E : XK} (rd : Rdr C H R T xs toks p) (po : O toks p p' d) (k : ∀ v H', But R H H' → Rdr C H' R T xs toks p' → Dd K H' v d → Q v H') : spPar K C args O (.ref R :: args) H Q E := ⟨R, T, xs, toks, p, p', d, rfl, rd, po, k⟩
section
variable {P : Program} {w : World} {K : PySem.W.Frag} {mg : Str → Option Value} {base : Heap} {f C pA : Addr} {fd : FuncData} {es : Array DictEntry} {nn : Nat}
theorem scExp : FnScope ["self", "depth"] ["self", "depth"] (defScope rExp) := ⟨rfl, rfl, rfl, by decide +kernel, rfl, by decide +kernel, by decide +kernel⟩
theorem ok_exp {k : Nat} {dep : Int} {O : Par} (F : Fun K "expression" "Reader.expression" rExp f fd) (c : RdC K C) (RW : MD P w K mg base C "row" ["self", "group", "depth"] k (spPar K C [.int ((0 : Nat) : Int), .int dep] O)) : FnOk P w K mg base CX0 (k + 1) f fd ["self", "depth"] (spPar K C [.int dep] O) := by
  refine F.ok scExp (fun vs H Q E h => ?_) (fun cdv A outer s H vs Q E hr h => ?_)
  · obtain ⟨R, T, xs, toks, p, p', d, rfl, _⟩ := h
    rfl
  · obtain ⟨R, T, xs, toks, p, p', d, rfl, rd, po, kQ⟩ := h
    have hrk : Room k _ := hr
    refine ⟨_, pss_one (ps_ret (pe_md RW c.cl hrk (pv 0) (pa_cons pe_int (pa_cons (pv 1) pa_nil)))), ?_⟩
    obtain ⟨⟨dx, r⟩, _⟩ := id rd
    exact ⟨_, rfl, R, dx, _, rfl, r, rfl, _, rfl, spPar.at (E := E0) rd po kQ⟩
def spStep (C : Addr) (dep : Int) : Sp := fun vs H Q _ => ∃ (R T : Addr) (xs : List V) (toks : List Tok3) (p a : Nat), vs = [.ref R, .int dep] ∧ Rdr C H R T xs toks p ∧ toks[p]? = some (("sign", .str "(", a) : Tok3) ∧ ∀ H', But R H H' → Rdr C H' R T xs toks (p + 1) → Q .non H'
theorem scStep : FnScope ["self", "depth"] ["self", "depth"] (defScope rStep) := ⟨rfl, rfl, rfl, by decide +kernel, rfl, by decide +kernel, by decide +kernel⟩
theorem ok_step {dep : Int} (hd : dep ≤ 12) (F : Fun K "step_in" "Reader.step_in" rStep f fd) (c : RdC K C) (gN : ∃ u, mg "MOST_NESTED" = some u ∧ RelV (.int 12) u) (TK : MD P w K mg base C "take" ["self", "sign"] 2 (spTake C)) : FnOk P w K mg base CX0 3 f fd ["self", "depth"] (spStep C dep) := by
  refine F.ok scStep (fun vs H Q E h => ?_) (fun cdv A outer s H vs Q E hr h => ?_)
  · obtain ⟨R, T, xs, toks, p, a, rfl, _⟩ := h
    rfl
  · obtain ⟨R, T, xs, toks, p, a, rfl, rd, hx, kQ⟩ := h
    have hr2 : Room 2 _ := hr
    refine ⟨_, pss_cons (ps_expr (pe_md TK c.cl hr2 (pv 0) (pa_cons pe_str pa_nil))) (pss_one (ps_if (pt_cmpR op_gt (pv 1) (C8.pe_gc (v := .int 12) rfl gN) (nomark _)) pss_no pss_nil)), ?_⟩
    obtain ⟨⟨dx, r⟩, _⟩ := id rd
    refine ⟨_, rfl, R, dx, _, rfl, r, rfl, R, T, xs, toks, p, a, "(", rfl, rd, hx, fun H1 b1 rd1 => ?_⟩
    exact s_when (b := false) (et_is (etGt (i := dep) (j := 12) (ev_var rfl) ev_c) (decide_eq_false (by omega))) (fun z => by cases z) fun _ H2 e2 => kQ H2 (b1.ex e2) (rd1.ext e2)
/-- the first token of what O reads is a number, a text or a word -/
def Kd3 (O : Par) : Prop := ∀ toks p p' d, O toks p p' d → ∃ x : Tok3, toks[p]? = some x ∧ x.1 ∈ kinds3 ∧ Sc x.2.1
theorem kd3_0 : Kd3 PO0 := fun toks p p' d h => by
  obtain ⟨x, h1, h2, h3, _⟩ := h.tok
  exact ⟨x, h1, h2, h3⟩
/-- ( and what O reads and ) -/
inductive PC (O : Par) (s : Str) (toks : List Tok3) : Nat → Nat → PyData → Prop
  | mk {p p' a b : Nat} {d : PyData} : toks[p]? = some (("sign", .str "(", a) : Tok3) → O toks (p + 1) p' d → toks[p']? = some (("sign", .str ")", b) : Tok3) → s ∈ callW → PC O s toks p (p' + 1) (.tuple [.str "call", .str s, .tuple [d]])
def NC : List Str := ["self", "word", "at", "depth", "arguments"]
theorem scCall : FnScope NC ["self", "word", "at", "depth"] (defScope rCall) := ⟨rfl, rfl, rfl, by decide +kernel, rfl, by decide +kernel, by decide +kernel⟩
theorem ok_call {k : Nat} {dep at_ : Int} {s : Str} {O : Par} (k3 : 3 ≤ k) (F : Fun K "call" "Reader.call" rCall f fd) (c : RdC K C) (A0 : Ar K w mg pA es nn) (gl : mg "len" = none) (gt : mg "tuple" = none) (IS : MD P w K mg base C "is_next" ["self", "sign"] 1 (spIs C)) (TK : MD P w K mg base C "take" ["self", "sign"] 2 (spTake C)) (ST : MD P w K mg base C "step_in" ["self", "depth"] 3 (spStep C dep))
    (EX : MD P w K mg base C "expression" ["self", "depth"] k (spPar K C [.int dep] O)) (h3 : Kd3 O) (hl : ∀ toks p p' d, O toks p p' d → noList d = true) : FnOk P w K mg base CX0 (k + 1) f fd ["self", "word", "at", "depth"] (spPar K C [.str s, .int at_, .int dep] (PC O s)) := by
  refine F.ok scCall (fun vs H Q E h => ?_) (fun cdv A outer s0 H vs Q E hr h => ?_)
  · obtain ⟨R, T, xs, toks, p, p', d, rfl, _⟩ := h
    rfl
  · obtain ⟨R, T, xs, toks, p, p', d, rfl, rd, po, kQ⟩ := h
    have hrk : Room k _ := hr
    have hr3 : Room 3 _ := hrk.mono k3
    have hr2 : Room 2 _ := hr3.mono (by decide)
    have hr1 : Room 1 _ := hr3.mono (by decide)
    refine ⟨_, pss_cons (ps_expr (pe_md ST c.cl hr3 (pv 0) (pa_cons (pv 3) pa_nil)))
      (pss_cons (ps_set (i := 4) scCall.nd rfl (Or.inl rfl) (pe_lst pa_nil))
      (pss_cons (ps_if (pt_not (pt_val (pe_md IS c.cl hr1 (pv 0) (pa_cons pe_str pa_nil))))
        (pss_cons (ps_expr (pe_bm PySem.F.plainAttrs_list PySem.F.slot_list_append PySem.F.type_list_append mt_append (pv 4) (pa_cons (pe_md EX c.cl hrk (pv 0) (pa_cons (pv 3) pa_nil)) pa_nil)))
        (pss_one (ps_while PassesOwn.never (pt_val (pe_md IS c.cl hr1 (pv 0) (pa_cons pe_str pa_nil))) pss_no))) pss_nil)
      (pss_cons (ps_expr (pe_md TK c.cl hr2 (pv 0) (pa_cons pe_str pa_nil)))
      (pss_cons (ps_if (PW.pt (pw_or (pt_cmpR (op_notIn_kd A0.d) (pv 1) (pe_glob (v := .ref pA) rfl A0.g rfl) rfl) (pw_or1 (pt_cmpR op_ne (pe_callB call_len_seq (by rfl) gl PySem.boot_len (pa_cons (pv 4) pa_nil)) (pe_callB call_len_seq (by rfl) gl PySem.boot_len (pa_cons (pe_ix ix_kdict (pe_glob (v := .ref pA) rfl A0.g rfl) (pv 1) (fun _ _ => rfl)) pa_nil)) (nomark _))))) pss_no pss_nil)
      (pss_one (ps_ret (pe_tup (pa_cons pe_str (pa_cons (pv 1) (pa_cons (pe_callTy call_tuple_of (by rfl) gt (by decide +kernel) (pa_cons (pv 4) pa_nil)) pa_nil)))))))))), ?_⟩
    cases po with
    | mk hx1 ho hx2 hs =>
    rename_i q a b d
    obtain ⟨⟨dx, r⟩, _⟩ := id rd
    refine ⟨_, rfl, R, dx, _, rfl, r, rfl, _, rfl, R, T, xs, toks, p, a, rfl, rd, hx1, fun H1 b1 rd1 => ?_⟩
    refine ⟨Nat.zero_le _, fun L nL => ?_⟩
    obtain ⟨⟨dx1, r1⟩, _⟩ := id rd1
    have RL : R ≠ L := ne_of_none r1 nL
    have TL : T ≠ L := ne_of_none rd1.t nL
    have nL0 : H L = none := but_none b1 nL (Ne.symm RL)
    have b2 : But R H (upd H1 L (.lst [])) := b1.ex (Ex.new nL)
    have rd2 := rd1.ext (Ex.new (o := .lst []) nL)
    have hL2 : (upd H1 L (.lst [])) L = some (.lst []) := upd_same
    generalize upd H1 L (.lst []) = H2 at b2 rd2 hL2 ⊢
    obtain ⟨x3, hx3, mk3, sx3⟩ := h3 _ _ _ _ ho
    refine q_when (b := !false) (et_not (et_is (et_B (ev_isn (s := ")") rd2 hx3 sx3 rfl (ea_cons ev_c ea_nil))) (by rw [k3_sign mk3, Bool.false_and]))) (fun _ H3 e3 => ?_) fun z => by cases z
    have rd3 := rd2.ext e3
    obtain ⟨⟨dx3, r3⟩, _⟩ := id rd3
    refine ⟨_, rfl, .inl ⟨rfl, _, sq_of (e3 _ _ hL2)⟩, _, rfl, R, dx3, _, rfl, r3, rfl, _, rfl, spPar.at (E := E0) rd3 ho fun v H4 b4 rd4 g4 => ?_⟩
    have hL4 : H4 L = some (.lst []) := b4 _ _ (Ne.symm RL) (e3 _ _ hL2)
    refine ⟨L, [], v, rfl, rfl, hL4, sz_lt (by decide), ?_⟩
    have b5 : But R H (upd H4 L (.lst ([] ++ [v]))) := fun c o n hc => by
      rw [upd_ne (ne_of_none hc nL0)]
      exact b4 _ _ n (e3 _ _ (b2 _ _ n hc))
    have rd5 : Rdr C (upd H4 L (.lst ([] ++ [v]))) R T xs toks q := by
      obtain ⟨⟨dx4, r4⟩, t4, k4⟩ := rd4
      refine ⟨⟨dx4, ?_⟩, ?_, k4.pres fun c ys hc => ?_⟩
      · rw [upd_ne RL]
        exact r4
      · rw [upd_ne TL]
        exact t4
      · rw [upd_ne (fun z => by rw [z, hL4] at hc; cases hc)]
        exact hc
    have g5 : Dd K (upd H4 L (.lst ([] ++ [v]))) v d := Dd.upd hL4 _ _ (hl _ _ _ _ ho) g4
    have hL5 : (upd H4 L (.lst ([] ++ [v]))) L = some (.lst [v]) := upd_same
    generalize upd H4 L (.lst ([] ++ [v])) = H5 at b5 rd5 g5 hL5 ⊢
    refine s_while (fun m σ' H' => σ' = [some (.ref R), some (.str s), some (.int at_), some (.int dep), some (.ref L)] ∧ Ex H5 H') 0 ⟨rfl, Ex.refl _⟩ ?_
    rintro m σ' H6 ⟨rfl, e6⟩
    refine ⟨false, et_is (et_B (ev_isn (s := ",") (rd5.ext e6) hx2 sc_s rfl (ea_cons ev_c ea_nil))) ?_, fun z => (by cases z), fun _ H7 e7 => ?_⟩
    · show (decide (("sign" : Str) = "sign") && decide (V.str ")" = V.str ",")) = false
      rw [decide_eq_false (show ¬ V.str ")" = V.str "," from fun z => absurd (V.str.inj z) (by decide +kernel)), Bool.and_false]
    have e57 := e6.trans e7
    have rd7 := rd5.ext e57
    obtain ⟨⟨dx7, r7⟩, _⟩ := id rd7
    refine ⟨_, rfl, R, dx7, _, rfl, r7, rfl, R, T, xs, toks, q, b, ")", rfl, rd7, hx2, fun H8 b8 rd8 => ?_⟩
    have hL8 : H8 L = some (.lst [v]) := b8 _ _ (Ne.symm RL) (e57 _ _ hL5)
    have g8 : Dd K H8 v d := dd_ins r7 b8 _ _ (Dd.ext e57 _ _ g5)
    have b08 : But R H H8 := (b5.ex e57).trans b8
    obtain ⟨u, y, hu, hy⟩ := A0.at_ s hs
    have t1 : Ev (tOp (fun x y H Q => ∃ (z : Str) (r : Option Value), x = .str z ∧ y = .ref pA ∧ PySem.W.nsIn K pA z = some r ∧ Q (.bl (!r.isSome)) H) (tVar 1) (tC (.ref pA))) ([some (.ref R), some (.str s), some (.int at_), some (.int dep), some (.ref L)] : L2.St) H8 (.bl false) := fun H9 e9 Q q => ⟨_, rfl, s, _, rfl, rfl, hu, q H9 (Ex.refl _)⟩
    have ixE : ∀ {H9 : Hp}, Ev (tOp (rIxD K w) (tC (.ref pA)) (tVar 1)) ([some (.ref R), some (.str s), some (.int at_), some (.int dep), some (.ref L)] : L2.St) H9 (.ref u) := fun H10 e10 Q q => ⟨_, rfl, pA, s, .ref u, rfl, rfl, ⟨es, nn, .ref u, A0.d.at_, A0.d.lit, hu, rfl⟩, q H10 (Ex.refl _)⟩
    have t2 : Ev (tOp rNe (tCB (rLenS K) (tCons (tVar 4) tNil)) (tCB (rLenS K) (tCons (tOp (rIxD K w) (tC (.ref pA)) (tVar 1)) tNil))) ([some (.ref R), some (.str s), some (.int at_), some (.int dep), some (.ref L)] : L2.St) H8 (.bl (!decide (V.int 1 = V.int 1))) :=
      ev_op (x := .int 1) (y := .int 1) (ev_is (ev_len (ev_var rfl) (sq_of hL8)) rfl) (fun H9 e9 Q q => ixE H9 (Ex.refl _) _ fun H10 e10 => ⟨u, [y], rfl, .inr (hy H10), q H10 e10⟩) (rv_ne rfl)
    refine q_when (b := false) (et_is (et_or (a := false) (b := !decide (V.int 1 = V.int 1)) (et_test t1) fun _ => et_test t2) (by rw [decide_eq_true rfl]; rfl)) (fun z => by cases z) fun _ H9 e9 => ?_
    have tp : EvD K (tCB (fun xs H Q => ∃ p ys, xs = [.ref p] ∧ ((SqL K H p ys ∧ ∀ l, H l = none → Q (.ref l) (upd H l (.tup ys))) ∨ (SqT K H p ys ∧ Q (.ref p) H))) (tCons (tVar 4) tNil)) ([some (.ref R), some (.str s), some (.int at_), some (.int dep), some (.ref L)] : L2.St) H9 (.tuple [d]) := fun H10 e10 Q q =>
      ⟨_, rfl, L, [v], rfl, .inl ⟨sq_of ((e9.trans e10) _ _ hL8), fun l nl => q (.ref l) _ (Ex.new nl) (.tup (st_of upd_same) (.cons (Dd.ext ((e9.trans e10).trans (Ex.new nl)) _ _ g8) .nil))⟩⟩
    exact ed_tup (eds_cons (ed_str ev_c) (eds_cons (ed_str (ev_var rfl)) (eds_cons tp eds_nil))) (show 3 ≤ 100000 by decide) H9 (Ex.refl _) _ fun v2 H10 e10 g10 => kQ v2 H10 (b08.ex (e9.trans e10)) (rd8.ext (e9.trans e10)) g10
end
end K70
set_option maxHeartbeats 4000000
namespace K70
open PySem PySem.Spec PyProof.Rows L2 Evl My LamX
/-- one operand, or a call of one -/
inductive PO1 (toks : List Tok3) : Nat → Nat → PyData → Prop
  | base {p p' : Nat} {d : PyData} : PO0 toks p p' d → PO1 toks p p' d
  | call {p p' a : Nat} {s : Str} {d : PyData} : toks[p]? = some (("word", .str s, a) : Tok3) → PC PO0 s toks (p + 1) p' d → Nxt toks p' → PO1 toks p p' d
theorem PO1.nx {toks : List Tok3} {p p' : Nat} {d : PyData} (h : PO1 toks p p' d) : Nxt toks p' := by
  cases h with
  | base h => exact h.nx
  | call _ _ h => exact h
theorem kd3_1 : Kd3 PO1 := fun toks p p' d h => by
  cases h with
  | base h => exact kd3_0 _ _ _ _ h
  | call h _ _ => exact ⟨_, h, (by decide +kernel : ("word" : Str) ∈ kinds3), sc_s⟩
theorem nl_0 {toks : List Tok3} {p p' : Nat} {d : PyData} (h : PO0 toks p p' d) : noList d = true := by
  cases h <;> rfl
theorem pc_nl {O : Par} {s : Str} {toks : List Tok3} {p p' : Nat} {d : PyData} (hl : ∀ toks p p' d, O toks p p' d → noList d = true) (h : PC O s toks p p' d) : noList d = true := by
  cases h with
  | mk _ ho _ _ =>
    have z := hl _ _ _ _ ho
    show (noList (.str "call") && (noList (.str s) && ((noList _ && true) && true))) = true
    rw [z]
    rfl
theorem nl_1 {toks : List Tok3} {p p' : Nat} {d : PyData} (h : PO1 toks p p' d) : noList d = true := by
  cases h with
  | base h => exact nl_0 h
  | call _ h _ => exact pc_nl (fun _ _ _ _ => nl_0) h
def spCallA (K : PySem.W.Frag) (C : Addr) (dep : Int) (O : Par) : Sp := fun vs H Q E => ∃ (s : Str) (a : Int), spPar K C [.str s, .int a, .int dep] (PC O s) vs H Q E
theorem callA {P : Program} {w : World} {K : PySem.W.Frag} {mg : Str → Option Value} {base : Heap} {C f : Addr} {fd : FuncData} {CX : CXT} {k : Nat} {ps : List Str} {dep : Int} {O : Par} (h : ∀ s a, FnOk P w K mg base CX k f fd ps (spPar K C [.str s, .int a, .int dep] (PC O s))) : FnOk P w K mg base CX k f fd ps (spCallA K C dep O) :=
  ⟨fun vs H Q E ⟨s, a, x⟩ => (h s a).len vs H Q E x, fun A outer sh H args us vs Q E hr e b r ⟨s, a, x⟩ => (h s a).run A outer sh H args us vs Q E hr e b r x⟩
section
variable {P : Program} {w : World} {K : PySem.W.Frag} {mg : Str → Option Value} {base : Heap} {f C : Addr} {fd : FuncData}
theorem ok_opd1 {k : Nat} {dep : Int} (k1 : 1 ≤ k) (F : Fun K "operand" "Reader.operand" rOpd f fd) (c : RdC K C) (IS : MD P w K mg base C "is_next" ["self", "sign"] 1 (spIs C)) (CA : MD P w K mg base C "call" ["self", "word", "at", "depth"] k (spCallA K C (dep + 1) PO0)) : FnOk P w K mg base CX0 (k + 1) f fd ["self", "depth"] (spPar K C [.int dep] PO1) := by
  refine F.ok scOpd (fun vs H Q E h => ?_) (fun cdv A outer s H vs Q E hr h => ?_)
  · obtain ⟨R, T, xs, toks, p, p', d, rfl, _⟩ := h
    rfl
  · obtain ⟨R, T, xs, toks, p, p', d, rfl, rd, po, kQ⟩ := h
    have hrk : Room k _ := hr
    have hr1 : Room 1 _ := hrk.mono k1
    refine ⟨_, pss_cons (ps_asg (pe_ix ix_list (pe_fld (pv 0) rfl) (pe_fld (pv 0) rfl) (fun _ _ => rfl)) (pg_tup rfl (pgs_cons (pg_name (i := 2) scOpd.nd rfl (Or.inl rfl)) (pgs_cons (pg_name (i := 3) scOpd.nd rfl (Or.inl rfl)) (pgs_cons (pg_name (i := 4) scOpd.nd rfl (Or.inl rfl)) pgs_nil)))))
      (pss_cons (ps_if (pt_val (pe_md IS c.cl hr1 (pv 0) (pa_cons pe_str pa_nil))) pss_no pss_nil)
      (pss_cons (ps_if (pt_cmpR op_notIn_seq (pv 2) (pe_tup (pa_cons pe_str (pa_cons pe_str (pa_cons pe_str pa_nil)))) rfl) pss_no pss_nil)
      (pss_cons (ps_fldaug (pv 0) pe_int in_add)
      (pss_cons (ps_if (pt_cmpR op_ne (pv 2) pe_str (nomark _)) (pss_one (ps_ret (pe_tup (pa_cons (pv 2) (pa_cons (pv 3) pa_nil))))) pss_nil)
      (pss_cons (ps_if (pt_val (pe_md IS c.cl hr1 (pv 0) (pa_cons pe_str pa_nil))) (pss_one (ps_ret (pe_md CA c.cl hrk (pv 0) (pa_cons (pv 3) (pa_cons (pv 4) (pa_cons (pe_op op_add (pv 1) pe_int) pa_nil)))))) pss_nil)
      (pss_one (ps_ret (pe_tup (pa_cons pe_str (pa_cons (pv 3) pa_nil)))))))))), ?_⟩
    cases po with
    | base po =>
      obtain ⟨x, hx, mk, sx, rfl, nx, alt⟩ := po.tok
      refine q_tok c rd hx rfl fun q hq H1 e1 => ?_
      refine q_when (b := false) (et_is (et_B (ev_isn (rd.ext e1) hx sx rfl (ea_cons ev_c ea_nil))) (by rw [k3_sign mk, Bool.false_and])) (fun z => by cases z) fun _ H2 e2 => ?_
      refine q_when (b := false) (et_test (ev_notin rfl mk)) (fun z => by cases z) fun _ H3 e3 => ?_
      have e03 := (e1.trans e2).trans e3
      refine q_place (n := 1) c (rd.ext e03) rfl ev_c rfl fun H4 b4 rd4 => ?_
      have b04 : But R H H4 := But.left e03 b4
      rcases alt with ⟨nw, hd⟩ | ⟨ew, s, es, ed⟩
      · refine q_when (b := true) (et_is (et_test (ev_op (ev_var rfl) ev_c (rv_ne rfl))) ?_) (fun _ H5 e5 => ?_) fun z => by cases z
        · rw [decide_eq_false (fun z => nw (V.str.inj z))]
          rfl
        · obtain ⟨dv, g, rfl⟩ := hd K H5
          exact s_two (ed_str (ev_var rfl)) (ed_var rfl g) fun v H6 e6 g6 => kQ v H6 (b04.ex (e5.trans e6)) (rd4.ext (e5.trans e6)) g6
      · obtain ⟨z, az, hz, zz⟩ := nx
        refine q_when (b := false) (et_is (et_test (ev_op (ev_var rfl) ev_c (rv_ne rfl))) ?_) (fun z => by cases z) fun _ H5 e5 => ?_
        · rw [ew, decide_eq_true rfl]
          rfl
        · refine q_when (b := false) (et_is (et_B (ev_isn (rd4.ext e5) hz sc_s rfl (ea_cons ev_c ea_nil))) ?_) (fun z => by cases z) fun _ H6 e6 => ?_
          · rw [decide_eq_false (show ¬ V.str z = V.str "(" from fun w => by
              have := V.str.inj w
              rcases zz with rfl | rfl <;> exact absurd this (by decide +kernel)), Bool.and_false]
          · rw [ed] at kQ
            refine s_two (ed_str ev_c) (ed_str (ev_is (ev_var rfl) es)) fun v H7 e7 g7 => kQ v H7 (b04.ex ((e5.trans e6).trans e7)) (rd4.ext ((e5.trans e6).trans e7)) g7
    | call hx pc nx =>
      rename_i a s
      have hx1 : ∃ b, toks[p + 1]? = some (("sign", .str "(", b) : Tok3) := by
        cases pc with
        | mk h _ _ _ => exact ⟨_, h⟩
      obtain ⟨b, hx1⟩ := hx1
      have mk : ("word" : Str) ∈ kinds3 := by decide +kernel
      refine q_tok c rd hx rfl fun q hq H1 e1 => ?_
      refine q_when (b := false) (et_is (et_B (ev_isn (rd.ext e1) hx sc_s rfl (ea_cons ev_c ea_nil))) (by rw [k3_sign mk, Bool.false_and])) (fun z => by cases z) fun _ H2 e2 => ?_
      refine q_when (b := false) (et_test (ev_notin rfl mk)) (fun z => by cases z) fun _ H3 e3 => ?_
      have e03 := (e1.trans e2).trans e3
      refine q_place (n := 1) c (rd.ext e03) rfl ev_c rfl fun H4 b4 rd4 => ?_
      have b04 : But R H H4 := But.left e03 b4
      refine q_when (b := false) (et_is (et_test (ev_op (ev_var rfl) ev_c (rv_ne rfl))) (by rw [decide_eq_true rfl]; rfl)) (fun z => by cases z) fun _ H5 e5 => ?_
      refine q_when (b := true) (et_is (et_B (ev_isn (s := "(") (rd4.ext e5) hx1 sc_s rfl (ea_cons ev_c ea_nil))) ?_) (fun _ H6 e6 => ?_) fun z => by cases z
      · show (decide (("sign" : Str) = "sign") && decide (V.str "(" = V.str "(")) = true
        rw [decide_eq_true rfl, decide_eq_true rfl]
        rfl
      · have rd6 := rd4.ext (e5.trans e6)
        obtain ⟨⟨dx6, r6⟩, _⟩ := id rd6
        exact ⟨_, rfl, R, dx6, _, rfl, r6, rfl, _, rfl, _, rfl, evAdd (i := dep) (j := 1) (ev_var rfl) ev_c H6 (Ex.refl _) _ fun H7 e7 => ⟨s, (a : Int), spPar.at (rd6.ext e7) pc fun v H8 b8 rd8 g8 => kQ v H8 ((b04.ex ((e5.trans e6).trans e7)).trans b8) rd8 g8⟩⟩
end
end K70
set_option maxHeartbeats 4000000
namespace K70
open PySem PySem.Spec PyProof.Rows L2 Evl My LamX
def spEnd (C : Addr) : Sp := fun vs H Q _ => ∃ (R T : Addr) (xs : List V) (toks : List Tok3) (p a : Nat) (v : V), vs = [.ref R, v] ∧ Rdr C H R T xs toks p ∧ toks[p]? = some (("sign", .str ";", a) : Tok3) ∧ ∀ H', But R H H' → Rdr C H' R T xs toks (p + 1) → Q v H'
inductive PS (O : Par) (toks : List Tok3) : Nat → Nat → PyData → Prop
  | tell {p q a b : Nat} {d : PyData} : toks[p]? = some (("sign", .str "tell", a) : Tok3) → O toks (p + 1) q d → toks[q]? = some (("sign", .str ";", b) : Tok3) → PS O toks p (q + 1) (.tuple [.str "tell", .none, d, .tuple [], .tuple []])
  | set {p q a b c : Nat} {s : Str} {d : PyData} : toks[p]? = some (("word", .str s, a) : Tok3) → toks[p + 1]? = some (("sign", .str "=", c) : Tok3) → O toks (p + 2) q d → toks[q]? = some (("sign", .str ";", b) : Tok3) → PS O toks p (q + 1) (.tuple [.str "set", .str s, d, .tuple [], .tuple []])
  | do_ {p q b : Nat} {x : Tok3} {d : PyData} : toks[p]? = some x → x.1 ∈ kinds3 → Sc x.2.1 → (x.1 = "word" → ∃ (z : Str) (c : Nat), toks[p + 1]? = some (("sign", .str z, c) : Tok3) ∧ (z = ";" ∨ z = "(")) → O toks p q d → toks[q]? = some (("sign", .str ";", b) : Tok3) → PS O toks p (q + 1) (.tuple [.str "do", .none, d, .tuple [], .tuple []])
section
variable {P : Program} {w : World} {K : PySem.W.Frag} {mg : Str → Option Value} {base : Heap} {f C : Addr} {fd : FuncData}
theorem scEnd : FnScope ["self", "statement"] ["self", "statement"] (defScope rEnd) := ⟨rfl, rfl, rfl, by decide +kernel, rfl, by decide +kernel, by decide +kernel⟩
theorem ok_end (F : Fun K "ended" "Reader.ended" rEnd f fd) (c : RdC K C) (TK : MD P w K mg base C "take" ["self", "sign"] 2 (spTake C)) : FnOk P w K mg base CX0 3 f fd ["self", "statement"] (spEnd C) := by
  refine F.ok scEnd (fun vs H Q E h => ?_) (fun cdv A outer s H vs Q E hr h => ?_)
  · obtain ⟨R, T, xs, toks, p, a, v, rfl, _⟩ := h
    rfl
  · obtain ⟨R, T, xs, toks, p, a, v, rfl, rd, hx, kQ⟩ := h
    have hr2 : Room 2 _ := hr
    refine ⟨_, pss_cons (ps_expr (pe_md TK c.cl hr2 (pv 0) (pa_cons pe_str pa_nil))) (pss_one (ps_ret (pv 1))), ?_⟩
    obtain ⟨⟨dx, r⟩, _⟩ := id rd
    exact ⟨_, rfl, R, dx, _, rfl, r, rfl, R, T, xs, toks, p, a, ";", rfl, rd, hx, fun H1 b1 rd1 => ⟨_, rfl, kQ H1 b1 rd1⟩⟩
theorem end_go {σ : L2.St} {H : Hp} {t1 t2 : TE} {kd : Str} {v2 : V} {d2 d : PyData} {R T : Addr} {xs : List V} {toks : List Tok3} {p q b : Nat} {O : Par} {dep : Int} {Q : VK} (h0 : σ[0]? = some (some (.ref R))) (h1 : σ[1]? = some (some (.int dep))) (e1 : Ev t1 σ H (.str kd)) (e2 : Ev t2 σ H v2) (g2 : ∀ H, Dd K H v2 d2)
    (rd : Rdr C H R T xs toks p) (po : O toks p q d) (hx : toks[q]? = some (("sign", .str ";", b) : Tok3)) (k : ∀ v H', But R H H' → Rdr C H' R T xs toks (q + 1) → Dd K H' v (.tuple [.str kd, d2, d, .tuple [], .tuple []]) → Q v H') :
    tMeth C "ended" (spEnd C) [] E0 (tVar 0) (tCons (tTup (tCons t1 (tCons t2 (tCons (tMeth C "expression" (spPar K C [.int dep] O) [] E0 (tVar 0) (tCons (tVar 1) tNil)) (tCons (tTup tNil) (tCons (tTup tNil) tNil)))))) tNil) σ H Q := by
  obtain ⟨⟨dx, r⟩, _⟩ := id rd
  refine ⟨_, h0, R, dx, _, rfl, r, rfl, e1 H (Ex.refl _) _ fun H1 x1 => e2 H1 x1 _ fun H2 x2 => ?_⟩
  have rd2 := rd.ext (x1.trans x2)
  obtain ⟨⟨dx2, r2⟩, _⟩ := id rd2
  refine ⟨_, h0, R, dx2, _, rfl, r2, rfl, _, h1, spPar.at (E := E0) rd2 po fun v H3 b3 rd3 g3 => ⟨Nat.zero_le _, fun ta na => ⟨Nat.zero_le _, fun tb nb => ⟨(show 5 ≤ sizeLine by decide), fun tc nc => ?_⟩⟩⟩⟩
  have ea : Ex H3 (upd H3 ta (.tup [])) := Ex.new na
  have eb : Ex (upd H3 ta (.tup [])) (upd (upd H3 ta (.tup [])) tb (.tup [])) := Ex.new nb
  have ec : Ex (upd (upd H3 ta (.tup [])) tb (.tup [])) (upd (upd (upd H3 ta (.tup [])) tb (.tup [])) tc (.tup [.str kd, v2, v, .ref ta, .ref tb])) := Ex.new nc
  have ga : (upd H3 ta (.tup [])) ta = some (.tup []) := upd_same
  have gb : (upd (upd H3 ta (.tup [])) tb (.tup [])) tb = some (.tup []) := upd_same
  have gc : (upd (upd (upd H3 ta (.tup [])) tb (.tup [])) tc (.tup [.str kd, v2, v, .ref ta, .ref tb])) tc = some (.tup [.str kd, v2, v, .ref ta, .ref tb]) := upd_same
  have g : Dd K (upd (upd (upd H3 ta (.tup [])) tb (.tup [])) tc (.tup [.str kd, v2, v, .ref ta, .ref tb])) (.ref tc) (.tuple [.str kd, d2, d, .tuple [], .tuple []]) :=
    .tup (st_of gc) (.cons (.str _) (.cons (g2 _) (.cons (Dd.ext ((ea.trans eb).trans ec) _ _ g3) (.cons (.tup (st_of (ec _ _ (eb _ _ ga))) .nil) (.cons (.tup (st_of (ec _ _ gb)) .nil) .nil)))))
  have e35 := (ea.trans eb).trans ec
  generalize upd (upd (upd H3 ta (.tup [])) tb (.tup [])) tc (.tup [.str kd, v2, v, .ref ta, .ref tb]) = H6 at g e35 ⊢
  have rd6 := rd3.ext e35
  obtain ⟨⟨dx6, r6⟩, _⟩ := id rd6
  have b06 : But R H H6 := (But.left (x1.trans x2) b3).ex e35
  exact ⟨R, T, xs, toks, q, b, .ref tc, rfl, rd6, hx, fun H7 b7 rd7 => k _ H7 (b06.trans b7) rd7 (dd_ins r6 b7 _ _ g)⟩
theorem ed_eqD {σ : L2.St} {H : Hp} {ta tb : TE} {d e : PyData} (ha : EvD K ta σ H d) (hb : EvD K tb σ H e) (n1 : noDict d = true) (n2 : noDict e = true) (s1 : SeqAt.shaped d = true) (s2 : SeqAt.shaped e = true) : Ev (tOp (rEqD K) ta tb) σ H (.bl (PyData.eqv d e)) := fun H1 x Q q =>
  ha H1 x _ fun v H2 e2 g => hb H2 (x.trans e2) _ fun u H3 e3 g2 => ⟨d, e, dp_ofL _ _ n1 (Dd.ext e3 _ _ g), dp_ofL _ _ n2 g2, s1, s2, q H3 (e2.trans e3)⟩
theorem ev_next2 {σ : L2.St} {H : Hp} {R T : Addr} {xs : List V} {toks : List Tok3} {p b : Nat} {y z : Str} (c : RdC K C) (rd : Rdr C H R T xs toks p) (hy : toks[p + 1]? = some ((y, .str z, b) : Tok3)) (h0 : σ[0]? = some (some (.ref R))) :
    EvD K (tSl (rSlT K) (tOp (rIxL K) (tFld K (tVar 0) "tokens") (tOp (rI0 fun i j => .int (i + j)) (tFld K (tVar 0) "place") (tC (.int 1)))) tNoPart (tPart (tC (.int 2)))) σ H (.tuple [.str y, .str z]) := fun H1 e Q q => by
  obtain ⟨qa, h1, h2⟩ := rd.k.get hy
  have ix : Ev (tOp (rIxL K) (tFld K (tVar 0) "tokens") (tOp (rI0 fun i j => .int (i + j)) (tFld K (tVar 0) "place") (tC (.int 1)))) σ H (.ref qa) := ev_op (ev_toks c rd h0) (evAdd (ev_place c rd h0) ev_c) (rv_ixL (i := (p : Int) + 1) (sq_of rd.t) (atI_nat (j := p + 1) h1))
  refine ix H1 e _ fun H2 e2 => ⟨2, rfl, qa, _, rfl, st_of ((e.trans e2) _ _ h2), (show ¬(HT.sIx 3 0 none = 0 ∧ HT.sIx 3 3 (some 2) = 3) by decide), fun t nt => ?_⟩
  exact q (.ref t) _ (e2.trans (Ex.new nt)) (.tup (st_of upd_same) (.cons (.str _) (.cons (.str _) .nil)))
theorem ed_signs {σ : L2.St} {H : Hp} {a b : Str} : EvD K (tTup (tCons (tC (.str a)) (tCons (tC (.str b)) tNil))) σ H (.tuple [.str a, .str b]) := ed_tup (eds_cons (ed_str ev_c) (eds_cons (ed_str ev_c) eds_nil)) (show 2 ≤ 100000 by decide)
theorem ev_blk {σ : L2.St} {H : Hp} {z : Str} (h3 : σ[3]? = some (some (.str z))) (hz : z ∉ (["if", "while", "for", "try"] : List Str)) : Ev (tOp (rIn K false) (tVar 3) (tTup (tCons (tC (.str "if")) (tCons (tC (.str "while")) (tCons (tC (.str "for")) (tCons (tC (.str "try")) tNil)))))) σ H (.bl false) := fun H1 e Q q =>
  ⟨_, h3, eu_tup (vs := (["if", "while", "for", "try"] : List Str).map V.str) (ea_cons ev_c (ea_cons ev_c (ea_cons ev_c (ea_cons ev_c ea_nil)))) (by decide) H1 (Ex.refl _) _ fun p H2 np e2 hp => ⟨p, _, rfl, .inr (st_of hp), rfl, flat_strs _, by
    show Q (.bl (inV (.str z) ((["if", "while", "for", "try"] : List Str).map V.str))) H2
    rw [inV_strs, decide_eq_false hz]
    exact q H2 e2⟩⟩
def NS : List Str := ["self", "depth", "sort", "word", "at"]
theorem scStm : FnScope NS ["self", "depth"] (defScope rStm) := ⟨rfl, rfl, rfl, by decide +kernel, rfl, by decide +kernel, by decide +kernel⟩
theorem ok_stm {k : Nat} {dep : Int} {O : Par} (k3 : 3 ≤ k) (F : Fun K "statement" "Reader.statement" rStm f fd) (c : RdC K C) (IS : MD P w K mg base C "is_next" ["self", "sign"] 1 (spIs C)) (TK : MD P w K mg base C "take" ["self", "sign"] 2 (spTake C)) (EN : MD P w K mg base C "ended" ["self", "statement"] 3 (spEnd C))
    (EX : MD P w K mg base C "expression" ["self", "depth"] k (spPar K C [.int dep] O)) : FnOk P w K mg base CX0 (k + 1) f fd ["self", "depth"] (spPar K C [.int dep] (PS O)) := by
  refine F.ok scStm (fun vs H Q E h => ?_) (fun cdv A outer s0 H vs Q E hr h => ?_)
  · obtain ⟨R, T, xs, toks, p, p', d, rfl, _⟩ := h
    rfl
  · obtain ⟨R, T, xs, toks, p, p', d, rfl, rd, po, kQ⟩ := h
    have hrk : Room k _ := hr
    have hr3 : Room 3 _ := hrk.mono k3
    have hr2 : Room 2 _ := hr3.mono (by decide)
    have hr1 : Room 1 _ := hr3.mono (by decide)
    refine ⟨_, pss_cons (ps_asg (pe_ix ix_list (pe_fld (pv 0) rfl) (pe_fld (pv 0) rfl) (fun _ _ => rfl)) (pg_tup rfl (pgs_cons (pg_name (i := 2) scStm.nd rfl (Or.inl rfl)) (pgs_cons (pg_name (i := 3) scStm.nd rfl (Or.inl rfl)) (pgs_cons (pg_name (i := 4) scStm.nd rfl (Or.inl rfl)) pgs_nil)))))
      (pss_cons (ps_if (PW.pt (pw_and (pt_cmpR op_eq (pv 2) pe_str (nomark _)) (pw_and1 (pt_cmpR op_in_seq (pv 3) (pe_tup (pa_cons pe_str (pa_cons pe_str (pa_cons pe_str (pa_cons pe_str pa_nil))))) rfl)))) pss_no pss_nil)
      (pss_cons (ps_if (pt_val (pe_md IS c.cl hr1 (pv 0) (pa_cons pe_str pa_nil))) (pss_cons (ps_expr (pe_md TK c.cl hr2 (pv 0) (pa_cons pe_str pa_nil))) (pss_one (ps_ret (pe_md EN c.cl hr3 (pv 0) (pa_cons (pe_tup (pa_cons pe_str (pa_cons pe_non (pa_cons (pe_md EX c.cl hrk (pv 0) (pa_cons (pv 1) pa_nil)) (pa_cons (pe_tup pa_nil) (pa_cons (pe_tup pa_nil) pa_nil)))))) pa_nil))))) pss_nil)
      (pss_cons (ps_if (PW.pt (pw_and (pt_cmpR op_eq (pv 2) pe_str (nomark _)) (pw_and1 (pt_cmpR (op_eqD hr1.units) (pe_slice sl_tup (pe_ix ix_list (pe_fld (pv 0) rfl) (pe_op op_add (pe_fld (pv 0) rfl) pe_int) (fun _ _ => rfl)) po_none (po_some pe_int)) (pe_tup (pa_cons pe_str (pa_cons pe_str pa_nil))) (nomark _)))))
        (pss_cons (ps_fldaug (pv 0) pe_int in_add) (pss_one (ps_ret (pe_md EN c.cl hr3 (pv 0) (pa_cons (pe_tup (pa_cons pe_str (pa_cons (pv 3) (pa_cons (pe_md EX c.cl hrk (pv 0) (pa_cons (pv 1) pa_nil)) (pa_cons (pe_tup pa_nil) (pa_cons (pe_tup pa_nil) pa_nil)))))) pa_nil))))) pss_nil)
      (pss_one (ps_ret (pe_md EN c.cl hr3 (pv 0) (pa_cons (pe_tup (pa_cons pe_str (pa_cons pe_non (pa_cons (pe_md EX c.cl hrk (pv 0) (pa_cons (pv 1) pa_nil)) (pa_cons (pe_tup pa_nil) (pa_cons (pe_tup pa_nil) pa_nil)))))) pa_nil))))))), ?_⟩
    cases po with
    | tell hx ho he =>
      rename_i q a b d
      refine q_tok c rd hx rfl fun qa hq H1 e1 => ?_
      refine q_when (b := decide (V.str "sign" = V.str "sign") && false) (et_and (et_test (ev_eqS (ev_var rfl) ev_c sc_s)) fun _ => et_test (ev_blk rfl (by decide +kernel))) (fun z => by rw [Bool.and_false] at z; cases z) fun _ H2 e2 => ?_
      have rd2 := rd.ext (e1.trans e2)
      refine q_when (b := true) (et_is (et_B (ev_isn (s := "tell") rd2 hx sc_s rfl (ea_cons ev_c ea_nil))) ?_) (fun _ H3 e3 => ?_) fun z => by cases z
      · show (decide (("sign" : Str) = "sign") && decide (V.str "tell" = V.str "tell")) = true
        rw [decide_eq_true rfl, decide_eq_true rfl]
        rfl
      · have rd3 := rd2.ext e3
        obtain ⟨⟨dx3, r3⟩, _⟩ := id rd3
        refine ⟨_, rfl, R, dx3, _, rfl, r3, rfl, R, T, xs, toks, p, a, "tell", rfl, rd3, hx, fun H4 b4 rd4 => ?_⟩
        exact end_go rfl rfl ev_c ev_c (fun _ => .non) rd4 ho he fun v H5 b5 rd5 g5 => kQ v H5 ((But.left ((e1.trans e2).trans e3) b4).trans b5) rd5 g5
    | set hx hy ho he =>
      rename_i q a b c2 s d
      refine q_tok c rd hx rfl fun qa hq H1 e1 => ?_
      have nos : decide (V.str "word" = V.str "sign") = false := decide_eq_false fun z => absurd (V.str.inj z) (by decide +kernel)
      refine q_when (b := false) (et_is (et_and (a := false) (b := false) (et_is (et_test (ev_eqS (ev_var rfl) ev_c sc_s)) nos) fun z => by cases z) rfl) (fun z => by cases z) fun _ H2 e2 => ?_
      have rd2 := rd.ext (e1.trans e2)
      refine q_when (b := false) (et_is (et_B (ev_isn (s := "tell") rd2 hx sc_s rfl (ea_cons ev_c ea_nil))) (by rw [k3_sign (by decide +kernel : ("word" : Str) ∈ kinds3), Bool.false_and])) (fun z => by cases z) fun _ H3 e3 => ?_
      have rd3 := rd2.ext e3
      have eqE := ed_eqD (K := K) (ev_next2 c rd3 hy (σ := ([some (.ref R), some (.int dep), some (.str "word"), some (.str s), some (.int (a : Int))] : L2.St)) rfl) (ed_signs (a := "sign") (b := "=")) rfl rfl (by decide +kernel) (by decide +kernel)
      refine q_when (b := true) (et_is (et_and (a := decide (V.str "word" = V.str "word")) (b := PyData.eqv (.tuple [.str "sign", .str "="]) (.tuple [.str "sign", .str "="])) (et_test (ev_eqS (ev_var rfl) ev_c sc_s)) fun _ => et_test eqE) ?_) (fun _ H4 e4 => ?_) fun z => by cases z
      · rw [decide_eq_true rfl]
        decide +kernel
      · have rd4 := rd3.ext e4
        refine q_place (n := 2) (m := 2) c rd4 rfl ev_c rfl fun H5 b5 rd5 => ?_
        exact end_go rfl rfl ev_c (ev_var rfl) (fun _ => .str _) rd5 ho he fun v H6 b6 rd6 g6 => kQ v H6 ((But.left (((e1.trans e2).trans e3).trans e4) b5).trans b6) rd6 g6
    | do_ hx mk sx hw ho he =>
      rename_i q b x d
      refine q_tok c rd hx rfl fun qa hq H1 e1 => ?_
      have nos : decide (V.str x.1 = V.str "sign") = false := by
        rw [dec_str]
        exact k3_sign mk
      refine q_when (b := false) (et_is (et_and (a := false) (b := false) (et_is (et_test (ev_eqS (ev_var rfl) ev_c sc_s)) nos) fun z => by cases z) rfl) (fun z => by cases z) fun _ H2 e2 => ?_
      have rd2 := rd.ext (e1.trans e2)
      refine q_when (b := false) (et_is (et_B (ev_isn (s := "tell") rd2 hx sx rfl (ea_cons ev_c ea_nil))) (by rw [k3_sign mk, Bool.false_and])) (fun z => by cases z) fun _ H3 e3 => ?_
      have rd3 := rd2.ext e3
      have cond : EvT (tAnd (tTest (tOp rEq (tVar 2) (tC (.str "word")))) (tTest (tOp (rEqD K) (tSl (rSlT K) (tOp (rIxL K) (tFld K (tVar 0) "tokens") (tOp (rI0 fun i j => .int (i + j)) (tFld K (tVar 0) "place") (tC (.int 1)))) tNoPart (tPart (tC (.int 2)))) (tTup (tCons (tC (.str "sign")) (tCons (tC (.str "=")) tNil)))))) ([some (.ref R), some (.int dep), some (.str x.1), some x.2.1, some (.int (x.2.2 : Int))] : L2.St) H3 false := by
        by_cases ew : x.1 = "word"
        · obtain ⟨z, c2, hz, zz⟩ := hw ew
          have eqE := ed_eqD (K := K) (ev_next2 c rd3 hz (σ := ([some (.ref R), some (.int dep), some (.str x.1), some x.2.1, some (.int (x.2.2 : Int))] : L2.St)) rfl) (ed_signs (a := "sign") (b := "=")) rfl rfl (by rcases zz with rfl | rfl <;> decide +kernel) (by decide +kernel)
          refine et_is (et_and (a := decide (V.str x.1 = V.str "word")) (b := PyData.eqv (.tuple [.str "sign", .str z]) (.tuple [.str "sign", .str "="])) (et_test (ev_eqS (ev_var rfl) ev_c sc_s)) fun _ => et_test eqE) ?_
          rw [show PyData.eqv (.tuple [.str "sign", .str z]) (.tuple [.str "sign", .str "="]) = false by rcases zz with rfl | rfl <;> decide +kernel, Bool.and_false]
        · exact et_is (et_and (a := false) (b := false) (et_is (et_test (ev_eqS (ev_var rfl) ev_c sc_s)) (decide_eq_false fun z => ew (V.str.inj z))) fun z => by cases z) rfl
      refine q_when (b := false) cond (fun z => by cases z) fun _ H4 e4 => ?_
      have rd4 := rd3.ext e4
      exact end_go rfl rfl ev_c ev_c (fun _ => .non) rd4 ho he fun v H6 b6 rd6 g6 => kQ v H6 (But.left (((e1.trans e2).trans e3).trans e4) b6) rd6 g6
end
end K70
set_option maxHeartbeats 4000000
namespace K70
open PySem PySem.Spec PyProof.Rows L2 Evl My LamX
inductive PA (O : Par) (toks : List Tok3) : Nat → List PyData → Prop
  | nil {p : Nat} {x : Tok3} : toks[p]? = some x → x.1 = "end" → PA O toks p []
  | cons {p q : Nat} {x : Tok3} {d : PyData} {ds : List PyData} : toks[p]? = some x → x.1 ≠ "end" → PS O toks p q d → PA O toks q ds → PA O toks p (d :: ds)
theorem ps_nl {O : Par} {toks : List Tok3} {p p' : Nat} {d : PyData} (hl : ∀ toks p p' d, O toks p p' d → noList d = true) (h : PS O toks p p' d) : noList d = true := by
  cases h with
  | tell _ ho _ =>
    have z := hl _ _ _ _ ho
    show (true && (true && (noList _ && (true && (true && true))))) = true
    rw [z]
    rfl
  | set _ _ ho _ =>
    have z := hl _ _ _ _ ho
    show (true && (true && (noList _ && (true && (true && true))))) = true
    rw [z]
    rfl
  | do_ _ _ _ _ ho _ =>
    have z := hl _ _ _ _ ho
    show (true && (true && (noList _ && (true && (true && true))))) = true
    rw [z]
    rfl
theorem noList_mem : ∀ {ds : List PyData} {d : PyData}, noLists ds = true → d ∈ ds → noList d = true
  | x :: ds, d, h, m => by
    have h2 : (noList x && noLists ds) = true := h
    rw [Bool.and_eq_true] at h2
    rcases List.mem_cons.mp m with rfl | m
    · exact h2.1
    · exact noList_mem h2.2 m
def spAll (K : PySem.W.Frag) (C : Addr) (O : Par) : Sp := fun vs H Q _ => ∃ (R T : Addr) (xs : List V) (toks : List Tok3) (p : Nat) (ds : List PyData), vs = [.ref R] ∧ Rdr C H R T xs toks p ∧ PA O toks p ds ∧ ds.length ≤ 900 ∧ ∀ v H', But R H H' → Dd K H' v (.tuple ds) → Q v H'
section
variable {P : Program} {w : World} {K : PySem.W.Frag} {mg : Str → Option Value} {base : Heap} {f C : Addr} {fd : FuncData}
theorem scAll : FnScope ["self", "statements"] ["self"] (defScope rAll) := ⟨rfl, rfl, rfl, by decide +kernel, rfl, by decide +kernel, by decide +kernel⟩
theorem ok_all {k : Nat} {O : Par} (F : Fun K "all_statements" "Reader.all_statements" rAll f fd) (c : RdC K C) (gt : mg "tuple" = none) (ST : MD P w K mg base C "statement" ["self", "depth"] k (spPar K C [.int 0] (PS O))) (hl : ∀ toks p p' d, O toks p p' d → noList d = true) : FnOk P w K mg base CX0 (k + 1) f fd ["self"] (spAll K C O) := by
  refine F.ok scAll (fun vs H Q E h => ?_) (fun cdv A outer s0 H vs Q E hr h => ?_)
  · obtain ⟨R, T, xs, toks, p, ds, rfl, _⟩ := h
    rfl
  · obtain ⟨R, T, xs, toks, p, ds, rfl, rd, pa, ln, kQ⟩ := h
    have hrk : Room k _ := hr
    refine ⟨_, pss_cons (ps_set (i := 1) scAll.nd rfl (Or.inl rfl) (pe_lst pa_nil))
      (pss_cons (ps_while PassesOwn.never (pt_cmpR op_ne (pe_ix ix_tup (pe_ix ix_list (pe_fld (pv 0) rfl) (pe_fld (pv 0) rfl) (fun _ _ => rfl)) pe_int (fun _ _ => rfl)) pe_str (nomark _))
        (pss_one (ps_expr (pe_bm PySem.F.plainAttrs_list PySem.F.slot_list_append PySem.F.type_list_append mt_append (pv 1) (pa_cons (pe_md ST c.cl hrk (pv 0) (pa_cons pe_int pa_nil)) pa_nil)))))
      (pss_one (ps_ret (pe_callTy call_tuple_of (by rfl) gt (by decide +kernel) (pa_cons (pv 1) pa_nil))))), ?_⟩
    refine ⟨Nat.zero_le _, fun L nL => ?_⟩
    obtain ⟨⟨dx, r⟩, _⟩ := id rd
    have RL : R ≠ L := ne_of_none r nL
    have TL : T ≠ L := ne_of_none rd.t nL
    have rd2 := rd.ext (Ex.new (o := .lst []) nL)
    have b2 : But R H (upd H L (.lst [])) := But.ofEx (Ex.new nL)
    have hL2 : (upd H L (.lst [])) L = some (.lst []) := upd_same
    generalize upd H L (.lst []) = H2 at b2 rd2 hL2 ⊢
    refine q_while (fun m σ' H' => ∃ (done rest : List PyData) (p : Nat) (vs : List V), σ' = [some (.ref R), some (.ref L)] ∧ But R H H' ∧ Rdr C H' R T xs toks p ∧ H' L = some (.lst vs) ∧ Dds K H' vs done ∧ noLists done = true ∧ PA O toks p rest ∧ ds = done ++ rest ∧ rest.length = m) ds.length ⟨[], ds, p, [], rfl, b2, rd2, hL2, .nil, rfl, pa, rfl, rfl⟩ ?_
    rintro m σ' H3 ⟨done, rest, p, vs, rfl, b3, rd3, hL3, g3, nl3, pa3, hd, hm⟩
    have cond : ∀ {x : Tok3}, toks[p]? = some x → EvT (tTest (tOp rNe (tOp (rIxT K) (tOp (rIxL K) (tFld K (tVar 0) "tokens") (tFld K (tVar 0) "place")) (tC (.int 0))) (tC (.str "end")))) ([some (.ref R), some (.ref L)] : L2.St) H3 (!decide (V.str x.1 = V.str "end")) := fun {x} hx => by
      obtain ⟨q, hq, ev⟩ := ev_tok c rd3 hx
      exact et_test (ev_op (ev_op (ev rfl) ev_c (rv_ixT (i := 0) (st_of hq) (atI_nat (j := 0) rfl))) ev_c (rv_ne rfl))
    cases pa3 with
    | nil hx he =>
      refine ⟨false, et_is (cond hx) (by rw [he, decide_eq_true rfl]; rfl), fun z => (by cases z), fun _ H4 e4 => ?_⟩
      rw [List.append_nil] at hd
      refine ⟨_, rfl, L, vs, rfl, .inl ⟨sq_of (e4 _ _ hL3), fun t nt => kQ (.ref t) _ ((b3.ex e4).ex (Ex.new nt)) ?_⟩⟩
      rw [hd]
      exact .tup (st_of upd_same) (Dds.ext (e4.trans (Ex.new nt)) _ _ g3)
    | cons hx ne hs pr =>
      rename_i q x d r
      refine ⟨true, et_is (cond hx) (by rw [decide_eq_false (fun z => ne (V.str.inj z))]; rfl), fun _ H4 e4 => ?_, fun z => (by cases z)⟩
      refine ⟨fun σ2 H2 => ∃ (done rest : List PyData) (p : Nat) (vs : List V), σ2 = [some (.ref R), some (.ref L)] ∧ But R H H2 ∧ Rdr C H2 R T xs toks p ∧ H2 L = some (.lst vs) ∧ Dds K H2 vs done ∧ noLists done = true ∧ PA O toks p rest ∧ ds = done ++ rest ∧ rest.length = r.length, fun σ2 H2 w => ⟨r.length, by rw [← hm, List.length_cons]; exact Nat.lt_succ_self _, w⟩, ?_⟩
      have rd4 := rd3.ext e4
      obtain ⟨⟨dx4, r4⟩, _⟩ := id rd4
      have hL4 := e4 _ _ hL3
      refine ⟨_, rfl, .inl ⟨rfl, _, sq_of hL4⟩, _, rfl, R, dx4, _, rfl, r4, rfl, spPar.at (E := E0) rd4 hs fun v H5 b5 rd5 g5 => ?_⟩
      have hL5 := b5 _ _ (Ne.symm RL) hL4
      have gd5 : Dds K H5 vs done := dds_ins r4 b5 _ _ (Dds.ext e4 _ _ g3)
      have vl := g3.len
      have dl : done.length ≤ 900 := by
        have z := congrArg List.length hd
        rw [List.length_append] at z
        omega
      refine ⟨L, vs, v, rfl, rfl, hL5, sz_lt (by omega), ?_⟩
      have nd := ps_nl hl hs
      refine ⟨done ++ [d], r, q, vs ++ [v], rfl, fun a o n ha => ?_, ?_, upd_same, ?_, ?_, pr, by rw [hd, List.append_assoc]; rfl, rfl⟩
      · by_cases al : a = L
        · rw [al, nL] at ha
          cases ha
        · rw [upd_ne al]
          exact b5 _ _ n (e4 _ _ (b3 _ _ n ha))
      · obtain ⟨⟨dx5, r5⟩, t5, k5⟩ := rd5
        refine ⟨⟨dx5, ?_⟩, ?_, k5.pres fun c ys hc => ?_⟩
        · rw [upd_ne RL]
          exact r5
        · rw [upd_ne TL]
          exact t5
        · rw [upd_ne (fun z => by rw [z, hL5] at hc; cases hc)]
          exact hc
      · exact Dds.app (Dds.upd hL5 _ _ nl3 gd5) (.cons (Dd.upd hL5 _ _ nd g5) .nil)
      · refine noLists_of fun y my => ?_
        rcases List.mem_append.mp my with m | m
        · exact noList_mem nl3 m
        · rw [List.mem_singleton.mp m]
          exact nd
end
end K70
set_option maxHeartbeats 4000000
namespace K70
open PySem PySem.Spec PyProof.Rows L2 Evl My LamX
/-! the writer -/
abbrev sExT : Stmt := top 28
abbrev sStL : Stmt := top 30
abbrev sBlL : Stmt := top 32
inductive EvS (σ : L2.St) (H : Hp) : List TE → List Str → Prop
  | nil : EvS σ H [] []
  | cons {t : TE} {y : Str} {ts : List TE} {ys : List Str} : Ev t σ H (.str y) → EvS σ H ts ys → EvS σ H (t :: ts) (y :: ys)
def cat (acc : Str) : List Str → Str
  | [] => acc
  | y :: ys => cat (acc ++ y) ys
theorem len_app (a b : Str) : (a ++ b).length = a.length + b.length := by
  show (a.cps ++ b.cps).size = _
  rw [Array.size_append]
  rfl
theorem cat_len : ∀ (ys : List Str) (acc : Str), acc.length ≤ (cat acc ys).length
  | [], acc => Nat.le_refl _
  | y :: ys, acc => by
    have ih := cat_len ys (acc ++ y)
    rw [len_app] at ih
    show acc.length ≤ (cat (acc ++ y) ys).length
    omega
theorem ev_js {σ : L2.St} {H : Hp} {ts : List TE} {ys : List Str} (h : EvS σ H ts ys) : ∀ {acc : Str}, (cat acc ys).length ≤ 100000 → ∀ H1, Ex H H1 → ∀ Q : Str → Hp → Prop, (∀ H2, Ex H1 H2 → Q (cat acc ys) H2) → tJs ts acc σ H1 Q := by
  induction h with
  | nil => exact fun _ H1 _ Q q => q H1 (Ex.refl _)
  | @cons t y ts ys ht _ ih =>
    intro acc hz H1 e Q q
    refine ht H1 e _ fun H2 e2 => ⟨y, rfl, ?_, ih hz H2 (e.trans e2) Q fun H3 e3 => q H3 (e2.trans e3)⟩
    exact sz_of (Nat.le_trans (cat_len ys (acc ++ y)) hz)
theorem ev_fstr {σ : L2.St} {H : Hp} {ts : List TE} {ys : List Str} {z : Str} (h : EvS σ H ts ys) (e : cat Str.empty ys = z) (hz : z.length ≤ 100000) : Ev (fun σ H Q => tJs ts Str.empty σ H fun out H1 => Q (.str out) H1) σ H (.str z) := fun H1 x Q q => ev_js h (by rw [e]; exact hz) H1 x _ fun H2 e2 => by
  rw [e]
  exact q H2 e2
theorem ev_fmtS {σ : L2.St} {H : Hp} {te : TE} {y : Str} (h : Ev te σ H (.str y)) (hy : y.length ≤ 100000) : Ev (tFmt te) σ H (.str y) := fun H1 e Q q => h H1 e _ fun H2 e2 => .inl ⟨y, rfl, sz_of hy, q H2 e2⟩
/-- the text of an operand -/
inductive X0 : PyData → Str → Prop
  | num {i : Int} : i.natAbs.log2 < 1920 → X0 (.tuple [.str "number", .int i]) (toString i)
  | txt {s : Str} : X0 (.tuple [.str "text", .str s]) (("\"" ++ s) ++ "\"")
  | var {s : Str} : X0 (.tuple [.str "variable", .str s]) s
inductive X1 : PyData → Str → Prop
  | base {d : PyData} {z : Str} : X0 d z → X1 d z
  | call {d : PyData} {s z : Str} : X0 d z → X1 (.tuple [.str "call", .str s, .tuple [d]]) (((s ++ "(") ++ z) ++ ")")
def spX (K : PySem.W.Frag) (O : PyData → Str → Prop) : Sp := fun vs H Q _ => ∃ (v : V) (d : PyData) (z : Str), vs = [v] ∧ Dd K H v d ∧ O d z ∧ z.length ≤ 3000 ∧ ∀ H', Ex H H' → Q (.str z) H'
theorem call_strB {X : Cx} : CallR X (.type "str") (fun xs H Q => (∃ a, xs = [.str a] ∧ Q (.str a) H) ∨ ∃ i, xs = [.int i] ∧ i.natAbs.log2 < 1920 ∧ Q (.str (toString i)) H) := by
  intro pins s σ H xs us Q I r h
  rcases h with h | h
  · exact SkE.call_str_str pins s σ H xs us Q I r h
  · exact call_str_int pins s σ H xs us Q I r h
section
variable {P : Program} {w : World} {K : PySem.W.Frag} {mg : Str → Option Value} {base : Heap} {f C : Addr} {fd : FuncData}
def NX : List Str := ["expression", "arguments", "each"]
theorem scExT : FnScope NX ["expression"] (defScope sExT) := ⟨rfl, rfl, rfl, by decide +kernel, rfl, by decide +kernel, by decide +kernel⟩
/-- d[j] of a datum that is a tuple -/
theorem ed_ix {σ : L2.St} {H : Hp} {i j : Nat} {v : V} {ds : List PyData} {d : PyData} (h0 : σ[i]? = some (some v)) (g : Dd K H v (.tuple ds)) (hd : ds[j]? = some d) : EvD K (tOp (rIxT K) (tVar i) (tC (.int (j : Int)))) σ H d := ed_ixT (ed_var h0 g) (fun H1 _ => ev_c) hd
theorem EvD.str' {te : TE} {σ : L2.St} {H : Hp} {s : Str} (h : EvD K te σ H (.str s)) : Ev te σ H (.str s) := fun H1 e Q q => h H1 e _ fun v H2 e2 g => by
  cases g
  exact q H2 e2
theorem EvD.int' {te : TE} {σ : L2.St} {H : Hp} {s : Int} (h : EvD K te σ H (.int s)) : Ev te σ H (.int s) := fun H1 e Q q => h H1 e _ fun v H2 e2 g => by
  cases g
  exact q H2 e2
theorem ok_ex0 (F : Fun K "expression_text" "expression_text" sExT f fd) (gs : mg "str" = none) : FnOk P w K mg base CX0 1 f fd ["expression"] (spX K X0) := by
  refine F.ok scExT (fun vs H Q E h => ?_) (fun cdv A outer s0 H vs Q E hr h => ?_)
  · obtain ⟨v, d, z, rfl, _⟩ := h
    rfl
  · obtain ⟨v, d, z, rfl, g, x, zl, kQ⟩ := h
    refine ⟨_, pss_cons (ps_if (pt_cmpR op_eq (pe_ix ix_tup (pv 0) pe_int (fun _ _ => rfl)) pe_str (nomark _)) pss_no pss_nil)
      (pss_cons (ps_if (pt_cmpR op_eq (pe_ix ix_tup (pv 0) pe_int (fun _ _ => rfl)) pe_str (nomark _)) pss_no pss_nil)
      (pss_cons (ps_if (pt_cmpR op_eq (pe_ix ix_tup (pv 0) pe_int (fun _ _ => rfl)) pe_str (nomark _)) (pss_one (ps_ret (pe_joined (.cons pe_str (.cons (pe_fmt (pe_ix ix_tup (pv 0) pe_int (fun _ _ => rfl))) (.cons pe_str .nil)))))) pss_nil)
      (pss_one (ps_ret (pe_callTy call_strB (by rfl) gs (by decide +kernel) (pa_cons (pe_ix ix_tup (pv 0) pe_int (fun _ _ => rfl)) pa_nil)))))), ?_⟩
    have is : ∀ {k s : Str} {ds : List PyData} {H1 : Hp}, Dd K H1 v (.tuple (.str k :: ds)) → EvT (tTest (tOp rEq (tOp (rIxT K) (tVar 0) (tC (.int 0))) (tC (.str s)))) ([some v, none, none] : L2.St) H1 (decide (V.str k = .str s)) := fun {k s ds H1} g1 => et_test (ev_eqS (EvD.str' (ed_ix (j := 0) rfl g1 rfl)) ev_c sc_s)
    have no : ∀ {a b : Str}, a ≠ b → decide (V.str a = V.str b) = false := fun n => decide_eq_false fun z => n (V.str.inj z)
    cases x with
    | num hi =>
      refine q_when (b := false) (et_is (is g) (no (by decide +kernel))) (fun z => by cases z) fun _ H1 e1 => ?_
      refine q_when (b := false) (et_is (is (Dd.ext e1 _ _ g)) (no (by decide +kernel))) (fun z => by cases z) fun _ H2 e2 => ?_
      refine q_when (b := false) (et_is (is (Dd.ext (e1.trans e2) _ _ g)) (no (by decide +kernel))) (fun z => by cases z) fun _ H3 e3 => ?_
      have e := (e1.trans e2).trans e3
      exact EvD.int' (ed_ix (j := 1) rfl (Dd.ext e _ _ g) rfl) H3 (Ex.refl _) _ fun H4 e4 => .inr ⟨_, rfl, hi, kQ H4 (e.trans e4)⟩
    | txt =>
      rename_i s
      refine q_when (b := false) (et_is (is g) (no (by decide +kernel))) (fun z => by cases z) fun _ H1 e1 => ?_
      refine q_when (b := false) (et_is (is (Dd.ext e1 _ _ g)) (no (by decide +kernel))) (fun z => by cases z) fun _ H2 e2 => ?_
      refine q_when (b := true) (et_is (is (Dd.ext (e1.trans e2) _ _ g)) (decide_eq_true rfl)) (fun _ H3 e3 => ?_) fun z => by cases z
      have e := (e1.trans e2).trans e3
      have sl : s.length ≤ 3000 := by
        rw [len_app, len_app] at zl
        omega
      exact s_ret (ev_fstr (.cons ev_c (.cons (ev_fmtS (EvD.str' (ed_ix (j := 1) rfl (Dd.ext e _ _ g) rfl)) (by omega)) (.cons ev_c .nil))) (by
        show ((Str.empty ++ "\"") ++ s) ++ "\"" = _
        rfl) (by omega)) fun H4 e4 => kQ H4 (e.trans e4)
    | var =>
      refine q_when (b := false) (et_is (is g) (no (by decide +kernel))) (fun z => by cases z) fun _ H1 e1 => ?_
      refine q_when (b := false) (et_is (is (Dd.ext e1 _ _ g)) (no (by decide +kernel))) (fun z => by cases z) fun _ H2 e2 => ?_
      refine q_when (b := false) (et_is (is (Dd.ext (e1.trans e2) _ _ g)) (no (by decide +kernel))) (fun z => by cases z) fun _ H3 e3 => ?_
      have e := (e1.trans e2).trans e3
      exact EvD.str' (ed_ix (j := 1) rfl (Dd.ext e _ _ g) rfl) H3 (Ex.refl _) _ fun H4 e4 => .inl ⟨_, rfl, kQ H4 (e.trans e4)⟩
end
end K70
set_option maxHeartbeats 4000000
namespace K70
open PySem PySem.Spec PyProof.Rows L2 Evl My LamX
theorem el_lcT {K : PySem.W.Frag} {σ : L2.St} {H : Hp} {a : Addr} {xs : List V} {tl te : TE} {t : TT} {j : Nat} {vs : List Nat} (f : Nat → Bool) (v : Nat → V) (h : Ev tl σ H (.ref a)) (hx : SqT K H a xs) (hz : xs.length ≤ 40000) (hw : ∀ x, wipe ((wipe σ vs).set j (some x)) vs = wipe σ vs)
    (ht : ∀ (i : Nat) (x : V) H1, Ex H H1 → xs[i]? = some x → EvT t ((wipe σ vs).set j (some x)) H1 (f i)) (he : ∀ (i : Nat) (x : V) H1, Ex H H1 → xs[i]? = some x → f i = true → Ev te ((wipe σ vs).set j (some x)) H1 (v i)) :
    EvL (tLc (iTup K tl) (gName j) t te vs) σ H (given xs.length f v) := fun H0 e Q q => h H0 e _ fun H1 e1 => ⟨a, rfl, ⟨xs, ex_t (e.trans e1) hx⟩, fun Dl hD =>
  lc_tup (xs := xs) (Cw H1 f v Dl) ⟨hD, Ex.new hD, upd_same⟩ (fun i H' _ p => ex_t ((e.trans e1).trans p.2.1) hx) (fun i x H' hi p => ⟨hw x, cw_turn p (by have := (List.getElem?_eq_some_iff.mp hi).1; omega) (ht i x H1 (e.trans e1) hi) (fun hf => he i x H1 (e.trans e1) hi hf)⟩)
  (fun H' p => q Dl H' (fresh_back e1 p.1) (e1.trans p.2.1) p.2.2)⟩
theorem et_yes {σ : L2.St} {H : Hp} : EvT tYes σ H true := fun H1 _ Q q => q H1 (Ex.refl _)
theorem emp_app (s : Str) : Str.empty ++ s = s := by
  cases s with
  | mk a =>
    show (⟨#[] ++ a⟩ : Str) = ⟨a⟩
    simp
section
variable {P : Program} {w : World} {K : PySem.W.Frag} {mg : Str → Option Value} {base : Heap} {f C : Addr} {fd : FuncData}
theorem ok_ex1 (F : Fun K "expression_text" "expression_text" sExT f fd) (gs : mg "str" = none) (E0' : Df P w K mg base "expression_text" ["expression"] 1 (spX K X0)) : FnOk P w K mg base CX0 2 f fd ["expression"] (spX K X1) := by
  refine F.ok scExT (fun vs H Q E h => ?_) (fun cdv A outer s0 H vs Q E hr h => ?_)
  · obtain ⟨v, d, z, rfl, _⟩ := h
    rfl
  · obtain ⟨v, d, z, rfl, g, x, zl, kQ⟩ := h
    have hr1 : Room 1 _ := hr
    refine ⟨_, pss_cons (ps_if (pt_cmpR op_eq (pe_ix ix_tup (pv 0) pe_int (fun _ _ => rfl)) pe_str (nomark _)) pss_no pss_nil)
      (pss_cons (ps_if (pt_cmpR op_eq (pe_ix ix_tup (pv 0) pe_int (fun _ _ => rfl)) pe_str (nomark _))
        (pss_cons (ps_set (i := 1) scExT.nd rfl (Or.inl rfl) (pe_bm PySem.F.plainAttrs_str PySem.F.slot_str_join PySem.F.type_str_join mt_join pe_str (pa_cons (pe_lc (own := [("each", 2)]) (g := gName 2) (tt := tYes) (te := tCall (spX K X0) [] E0 (tCons (tVar 2) tNil)) rfl scExT.nd (pi_tup (pe_ix ix_tup (pv 0) pe_int (fun _ _ => rfl))) (blkOk_by (own := [("each", 2)]) (N := NX) (sc := defScope sExT) (by decide +kernel)) (fun _ _ _ _ _ => pg_name (i := 2) scExT.nd rfl (Or.inl rfl)) (fun _ _ _ _ _ => pts_nil) (fun _ _ _ _ _ => pe_df E0' hr1 rfl (pa_cons (pv 2) pa_nil))) pa_nil)))
        (pss_one (ps_ret (pe_joined (.cons (pe_fmt (pe_ix ix_tup (pv 0) pe_int (fun _ _ => rfl))) (.cons pe_str (.cons (pe_fmt (pv 1)) (.cons pe_str .nil)))))))) pss_nil)
      (pss_cons (ps_if (pt_cmpR op_eq (pe_ix ix_tup (pv 0) pe_int (fun _ _ => rfl)) pe_str (nomark _)) (pss_one (ps_ret (pe_joined (.cons pe_str (.cons (pe_fmt (pe_ix ix_tup (pv 0) pe_int (fun _ _ => rfl))) (.cons pe_str .nil)))))) pss_nil)
      (pss_one (ps_ret (pe_callTy call_strB (by rfl) gs (by decide +kernel) (pa_cons (pe_ix ix_tup (pv 0) pe_int (fun _ _ => rfl)) pa_nil)))))), ?_⟩
    have is : ∀ {k s : Str} {ds : List PyData} {H1 : Hp}, Dd K H1 v (.tuple (.str k :: ds)) → EvT (tTest (tOp rEq (tOp (rIxT K) (tVar 0) (tC (.int 0))) (tC (.str s)))) ([some v, none, none] : L2.St) H1 (decide (V.str k = .str s)) := fun {k s ds H1} g1 => et_test (ev_eqS (EvD.str' (ed_ix (j := 0) rfl g1 rfl)) ev_c sc_s)
    have no : ∀ {a b : Str}, a ≠ b → decide (V.str a = V.str b) = false := fun n => decide_eq_false fun z => n (V.str.inj z)
    cases x with
    | base x =>
      cases x with
      | num hi =>
        refine q_when (b := false) (et_is (is g) (no (by decide +kernel))) (fun z => by cases z) fun _ H1 e1 => ?_
        refine q_when (b := false) (et_is (is (Dd.ext e1 _ _ g)) (no (by decide +kernel))) (fun z => by cases z) fun _ H2 e2 => ?_
        refine q_when (b := false) (et_is (is (Dd.ext (e1.trans e2) _ _ g)) (no (by decide +kernel))) (fun z => by cases z) fun _ H3 e3 => ?_
        have e := (e1.trans e2).trans e3
        exact EvD.int' (ed_ix (j := 1) rfl (Dd.ext e _ _ g) rfl) H3 (Ex.refl _) _ fun H4 e4 => .inr ⟨_, rfl, hi, kQ H4 (e.trans e4)⟩
      | txt =>
        rename_i s
        refine q_when (b := false) (et_is (is g) (no (by decide +kernel))) (fun z => by cases z) fun _ H1 e1 => ?_
        refine q_when (b := false) (et_is (is (Dd.ext e1 _ _ g)) (no (by decide +kernel))) (fun z => by cases z) fun _ H2 e2 => ?_
        refine q_when (b := true) (et_is (is (Dd.ext (e1.trans e2) _ _ g)) (decide_eq_true rfl)) (fun _ H3 e3 => ?_) fun z => by cases z
        have e := (e1.trans e2).trans e3
        have sl : s.length ≤ 3000 := by
          rw [len_app, len_app] at zl
          omega
        exact s_ret (ev_fstr (.cons ev_c (.cons (ev_fmtS (EvD.str' (ed_ix (j := 1) rfl (Dd.ext e _ _ g) rfl)) (by omega)) (.cons ev_c .nil))) (by
          show ((Str.empty ++ "\"") ++ s) ++ "\"" = _
          rfl) (by omega)) fun H4 e4 => kQ H4 (e.trans e4)
      | var =>
        refine q_when (b := false) (et_is (is g) (no (by decide +kernel))) (fun z => by cases z) fun _ H1 e1 => ?_
        refine q_when (b := false) (et_is (is (Dd.ext e1 _ _ g)) (no (by decide +kernel))) (fun z => by cases z) fun _ H2 e2 => ?_
        refine q_when (b := false) (et_is (is (Dd.ext (e1.trans e2) _ _ g)) (no (by decide +kernel))) (fun z => by cases z) fun _ H3 e3 => ?_
        have e := (e1.trans e2).trans e3
        exact EvD.str' (ed_ix (j := 1) rfl (Dd.ext e _ _ g) rfl) H3 (Ex.refl _) _ fun H4 e4 => .inl ⟨_, rfl, kQ H4 (e.trans e4)⟩
    | call x0 =>
      rename_i d0 s z0
      refine q_when (b := false) (et_is (is g) (no (by decide +kernel))) (fun z => by cases z) fun _ H1 e1 => ?_
      have g1 := Dd.ext e1 _ _ g
      refine q_when (b := true) (et_is (is g1) (decide_eq_true rfl)) (fun _ H2 e2 => ?_) fun z => by cases z
      have g2 := Dd.ext e2 _ _ g1
      have zl2 : s.length ≤ 3000 ∧ z0.length ≤ 3000 := by
        rw [len_app, len_app, len_app] at zl
        omega
      obtain ⟨a2, w0, hv2, ha2, gw⟩ : ∃ (a2 : Addr) (w0 : V), Ev (tOp (rIxT K) (tVar 0) (tC (.int 2))) ([some v, none, none] : L2.St) H2 (.ref a2) ∧ SqT K H2 a2 [w0] ∧ Dd K H2 w0 d0 := by
        cases g2 with
        | tup hs ha =>
          cases ha with
          | cons ga1 ha =>
            cases ha with
            | cons ga2 ha =>
              cases ha with
              | cons ga3 ha =>
                cases ha
                cases ga3 with
                | tup hs3 ha3 =>
                  cases ha3 with
                  | cons gw ha4 =>
                    cases ha4
                    exact ⟨_, _, ev_op (ev_var rfl) ev_c (rv_ixT (i := 2) hs (atI_nat (j := 2) rfl)), hs3, gw⟩
      have lc := el_lcT (K := K) (j := 2) (vs := [2]) (t := tYes) (te := tCall (spX K X0) [] E0 (tCons (tVar 2) tNil)) (fun _ => true) (fun _ => V.str z0) hv2 ha2 (show 1 ≤ 40000 by decide) (fun x => rfl) (fun i x H3 e3 hx => et_yes) (fun i x H3 e3 hx _ => by
        cases i with
        | zero =>
          cases hx
          exact fun H4 e4 Q q => ⟨_, rfl, w0, d0, z0, rfl, Dd.ext (e3.trans e4) _ _ gw, x0, zl2.2, fun H5 e5 => q H5 e5⟩
        | succ i => cases hx)
      have args : Ev (tBM K "str" (fun x xs H Q => ∃ a p, ∃ ys : List Str, x = .str a ∧ xs = [.ref p] ∧ (SqL K H p (ys.map V.str) ∨ SqT K H p (ys.map V.str)) ∧ (ys.map (·.length)).sum + ys.length * a.length ≤ 16777216 ∧ Q (.str (Txt.join a ys)) H) (tC (.str ", ")) (tCons (tLc (iTup K (tOp (rIxT K) (tVar 0) (tC (.int 2)))) (gName 2) tYes (tCall (spX K X0) [] E0 (tCons (tVar 2) tNil)) [2]) tNil)) ([some v, none, none] : L2.St) H2 (.str z0) := fun H3 e3 Q q =>
        ⟨rfl, lc H3 e3 _ fun p H4 np e4 hp => ⟨", ", p, [z0], rfl, rfl, .inl (sq_of hp), (by
          show (z0.length + 0) + 1 * (", " : Str).length ≤ 16777216
          have : (", " : Str).length = 2 := by decide +kernel
          omega), q H4 e4⟩⟩
      refine q_asg args fun H3 e3 => ?_
      have e := (e1.trans e2).trans e3
      have g3 := Dd.ext e3 _ _ g2
      exact s_ret (ev_fstr (.cons (ev_fmtS (EvD.str' (ed_ix (j := 1) rfl g3 rfl)) (by omega)) (.cons ev_c (.cons (ev_fmtS (ev_var rfl) (by omega)) (.cons ev_c .nil)))) (by
        show (((Str.empty ++ s) ++ "(") ++ z0) ++ ")" = _
        rw [emp_app]) (by omega)) fun H4 e4 => kQ H4 (e.trans e4)
end
end K70
set_option maxHeartbeats 4000000
namespace K70
open PySem PySem.Spec PyProof.Rows L2 Evl My LamX
/-- the line of a statement -/
inductive L1 : PyData → Str → Prop
  | set {e : PyData} {s z : Str} : X1 e z → L1 (.tuple [.str "set", .str s, e, .tuple [], .tuple []]) (((s ++ " = ") ++ z) ++ ";")
  | tell {e : PyData} {z : Str} : X1 e z → L1 (.tuple [.str "tell", .none, e, .tuple [], .tuple []]) (("tell " ++ z) ++ ";")
  | do_ {e : PyData} {z : Str} : X1 e z → L1 (.tuple [.str "do", .none, e, .tuple [], .tuple []]) (z ++ ";")
def spSL (K : PySem.W.Frag) : Sp := fun vs H Q _ => ∃ (v : V) (d : PyData) (z : Str), vs = [v] ∧ Dd K H v d ∧ L1 d z ∧ z.length ≤ 3000 ∧ ∀ p H', H p = none → Ex H H' → H' p = some (.lst [.str z]) → Q (.ref p) H'
theorem dds5 {K : PySem.W.Frag} {H : Hp} {vs : List V} {a b c d e : PyData} (h : Dds K H vs [a, b, c, d, e]) : ∃ x1 x2 x3 x4 x5, vs = [x1, x2, x3, x4, x5] ∧ Dd K H x1 a ∧ Dd K H x2 b ∧ Dd K H x3 c ∧ Dd K H x4 d ∧ Dd K H x5 e := by
  cases h with
  | cons h1 h => cases h with
    | cons h2 h => cases h with
      | cons h3 h => cases h with
        | cons h4 h => cases h with
          | cons h5 h =>
            cases h
            exact ⟨_, _, _, _, _, rfl, h1, h2, h3, h4, h5⟩
section
variable {P : Program} {w : World} {K : PySem.W.Frag} {mg : Str → Option Value} {base : Heap} {f C : Addr} {fd : FuncData}
def NL : List Str := ["statement", "word", "name", "expression", "block", "other", "lines"]
theorem scStL : FnScope NL ["statement"] (defScope sStL) := ⟨rfl, rfl, rfl, by decide +kernel, rfl, by decide +kernel, by decide +kernel⟩
theorem ok_stl (F : Fun K "statement_lines" "statement_lines" sStL f fd) (EX : Df P w K mg base "expression_text" ["expression"] 2 (spX K X1)) : FnOk P w K mg base CX0 3 f fd ["statement"] (spSL K) := by
  refine F.ok scStL (fun vs H Q E h => ?_) (fun cdv A outer s0 H vs Q E hr h => ?_)
  · obtain ⟨v, d, z, rfl, _⟩ := h
    rfl
  · obtain ⟨v, d, z, rfl, g, x, zl, kQ⟩ := h
    have hr2 : Room 2 _ := hr
    refine ⟨_, pss_cons (ps_asg (pv 0) (pg_tup rfl (pgs_cons (pg_name (i := 1) scStL.nd rfl (Or.inl rfl)) (pgs_cons (pg_name (i := 2) scStL.nd rfl (Or.inl rfl)) (pgs_cons (pg_name (i := 3) scStL.nd rfl (Or.inl rfl)) (pgs_cons (pg_name (i := 4) scStL.nd rfl (Or.inl rfl)) (pgs_cons (pg_name (i := 5) scStL.nd rfl (Or.inl rfl)) pgs_nil)))))))
      (pss_cons (ps_if (pt_cmpR op_eq (pv 1) pe_str (nomark _)) (pss_one (ps_ret (pe_lst (pa_cons (pe_joined (.cons (pe_fmt (pv 2)) (.cons pe_str (.cons (pe_fmt (pe_df EX hr2 rfl (pa_cons (pv 3) pa_nil))) (.cons pe_str .nil))))) pa_nil)))) pss_nil)
      (pss_cons (ps_if (pt_cmpR op_eq (pv 1) pe_str (nomark _)) (pss_one (ps_ret (pe_lst (pa_cons (pe_joined (.cons pe_str (.cons (pe_fmt (pe_df EX hr2 rfl (pa_cons (pv 3) pa_nil))) (.cons pe_str .nil)))) pa_nil)))) pss_nil)
      (pss_cons (ps_if (pt_cmpR op_eq (pv 1) pe_str (nomark _)) (pss_one (ps_ret (pe_lst (pa_cons (pe_joined (.cons (pe_fmt (pe_df EX hr2 rfl (pa_cons (pv 3) pa_nil))) (.cons pe_str .nil))) pa_nil)))) pss_nil) pss_no))), ?_⟩
    have no : ∀ {a b : Str}, a ≠ b → decide (V.str a = V.str b) = false := fun n => decide_eq_false fun z => n (V.str.inj z)
    have ex : ∀ {σ : L2.St} {H1 : Hp} {u : V} {e : PyData} {y : Str}, σ[3]? = some (some u) → Dd K H1 u e → X1 e y → y.length ≤ 3000 → Ev (tFmt (tCall (spX K X1) [] E0 (tCons (tVar 3) tNil))) σ H1 (.str y) := fun h3 gu xe yl => ev_fmtS (fun H2 e2 Q q => ⟨_, h3, _, _, _, rfl, Dd.ext e2 _ _ gu, xe, yl, fun H3 e3 => q H3 e3⟩) (by omega)
    have one : ∀ {σ : L2.St} {H1 : Hp} {te : TE} {y : Str}, Ev te σ H1 (.str y) → EvL (tLst (tCons te tNil)) σ H1 [.str y] := fun h => el_lst (ea_cons h ea_nil) (by simp)
    cases x with
    | set xe =>
      rename_i e s y
      have yl : s.length ≤ 3000 ∧ y.length ≤ 3000 := by
        rw [len_app, len_app, len_app] at zl
        omega
      cases g with
      | tup hs ha =>
        rename_i a xs
        obtain ⟨x1, x2, x3, x4, x5, rfl, g1, g2, g3, g4, g5⟩ := dds5 ha
        cases g1
        cases g2
        refine ⟨_, rfl, a, _, rfl, hs, rfl, _, _, rfl, _, _, rfl, _, _, rfl, _, _, rfl, _, _, rfl, rfl, ?_⟩
        refine q_when (b := true) (et_is (et_test (ev_eqS (ev_var rfl) ev_c sc_s)) (decide_eq_true rfl)) (fun _ H1 e1 => ?_) fun z => by cases z
        exact s_retL (one (ev_fstr (.cons (ev_fmtS (ev_var rfl) (by omega)) (.cons ev_c (.cons (ex rfl (Dd.ext e1 _ _ g3) xe yl.2) (.cons ev_c .nil)))) (by
          show (((Str.empty ++ s) ++ " = ") ++ y) ++ ";" = _
          rw [emp_app]) (by omega))) fun p H2 np e2 hp => kQ p H2 (fresh_back e1 np) (e1.trans e2) hp
    | tell xe =>
      rename_i e y
      have yl : y.length ≤ 3000 := by
        rw [len_app, len_app] at zl
        omega
      cases g with
      | tup hs ha =>
        rename_i a xs
        obtain ⟨x1, x2, x3, x4, x5, rfl, g1, g2, g3, g4, g5⟩ := dds5 ha
        cases g1
        refine ⟨_, rfl, a, _, rfl, hs, rfl, _, _, rfl, _, _, rfl, _, _, rfl, _, _, rfl, _, _, rfl, rfl, ?_⟩
        refine q_when (b := false) (et_is (et_test (ev_eqS (ev_var rfl) ev_c sc_s)) (no (by decide +kernel))) (fun z => by cases z) fun _ H1 e1 => ?_
        refine q_when (b := true) (et_is (et_test (ev_eqS (ev_var rfl) ev_c sc_s)) (decide_eq_true rfl)) (fun _ H2 e2 => ?_) fun z => by cases z
        exact s_retL (one (ev_fstr (.cons ev_c (.cons (ex rfl (Dd.ext (e1.trans e2) _ _ g3) xe yl) (.cons ev_c .nil))) (by
          show ((Str.empty ++ "tell ") ++ y) ++ ";" = _
          rw [emp_app]) (by omega))) fun p H3 np e3 hp => kQ p H3 (fresh_back (e1.trans e2) np) ((e1.trans e2).trans e3) hp
    | do_ xe =>
      rename_i e y
      have yl : y.length ≤ 3000 := by
        rw [len_app] at zl
        omega
      cases g with
      | tup hs ha =>
        rename_i a xs
        obtain ⟨x1, x2, x3, x4, x5, rfl, g1, g2, g3, g4, g5⟩ := dds5 ha
        cases g1
        refine ⟨_, rfl, a, _, rfl, hs, rfl, _, _, rfl, _, _, rfl, _, _, rfl, _, _, rfl, _, _, rfl, rfl, ?_⟩
        refine q_when (b := false) (et_is (et_test (ev_eqS (ev_var rfl) ev_c sc_s)) (no (by decide +kernel))) (fun z => by cases z) fun _ H1 e1 => ?_
        refine q_when (b := false) (et_is (et_test (ev_eqS (ev_var rfl) ev_c sc_s)) (no (by decide +kernel))) (fun z => by cases z) fun _ H2 e2 => ?_
        refine q_when (b := true) (et_is (et_test (ev_eqS (ev_var rfl) ev_c sc_s)) (decide_eq_true rfl)) (fun _ H3 e3 => ?_) fun z => by cases z
        have e := (e1.trans e2).trans e3
        exact s_retL (one (ev_fstr (.cons (ex rfl (Dd.ext e _ _ g3) xe yl) (.cons ev_c .nil)) (by
          show (Str.empty ++ y) ++ ";" = _
          rw [emp_app]) (by omega))) fun p H4 np e4 hp => kQ p H4 (fresh_back e np) (e.trans e4) hp
end
end K70
set_option maxHeartbeats 4000000
namespace K70
open PySem PySem.Spec PyProof.Rows L2 Evl My LamX
inductive LL : List PyData → List Str → Prop
  | nil : LL [] []
  | cons {d : PyData} {z : Str} {ds : List PyData} {zs : List Str} : L1 d z → z.length ≤ 3000 → LL ds zs → LL (d :: ds) (z :: zs)
theorem LL.get {ds : List PyData} {zs : List Str} (h : LL ds zs) : ∀ {i : Nat} {d : PyData}, ds[i]? = some d → ∃ z, zs[i]? = some z ∧ L1 d z ∧ z.length ≤ 3000 := by
  induction h with
  | nil =>
    intro i d e
    simp at e
  | cons h hz _ ih =>
    intro i d e
    cases i with
    | zero =>
      cases e
      exact ⟨_, rfl, h, hz⟩
    | succ i => exact ih (show _ = _ from e)
theorem LL.len {ds : List PyData} {zs : List Str} (h : LL ds zs) : ds.length = zs.length := by
  induction h with
  | nil => rfl
  | cons _ _ _ ih => rw [List.length_cons, List.length_cons, ih]
def spBL (K : PySem.W.Frag) : Sp := fun vs H Q _ => ∃ (v : V) (ds : List PyData) (zs : List Str), vs = [v] ∧ Dd K H v (.tuple ds) ∧ LL ds zs ∧ ds.length ≤ 900 ∧ ∀ p H', H p = none → Ex H H' → H' p = some (.lst (zs.map V.str)) → Q (.ref p) H'
theorem yes_if {σ : L2.St} {H : Hp} {A B : Hp → Prop} (h : A H) : tYes σ H (fun b H3 => if b = true then A H3 else B H3) := by
  show (if true = true then A H else B H)
  rw [if_pos rfl]
  exact h
section
variable {P : Program} {w : World} {K : PySem.W.Frag} {mg : Str → Option Value} {base : Heap} {f C : Addr} {fd : FuncData}
def NB : List Str := ["statements", "statement", "line"]
theorem scBlL : FnScope NB ["statements"] (defScope sBlL) := ⟨rfl, rfl, rfl, by decide +kernel, rfl, by decide +kernel, by decide +kernel⟩
theorem ok_bll (F : Fun K "block_lines" "block_lines" sBlL f fd) (SL : Df P w K mg base "statement_lines" ["statement"] 3 (spSL K)) : FnOk P w K mg base CX0 4 f fd ["statements"] (spBL K) := by
  refine F.ok scBlL (fun vs H Q E h => ?_) (fun cdv A outer s0 H vs Q E hr h => ?_)
  · obtain ⟨v, ds, zs, rfl, _⟩ := h
    rfl
  · obtain ⟨v, ds, zs, rfl, g, ll, ln, kQ⟩ := h
    have hr3 : Room 3 _ := hr
    refine ⟨_, pss_one (ps_ret (pe_lc2 (own := [("statement", 1), ("line", 2)]) (vs1 := [2]) (g := gName 1) (g1 := gName 2) (tt := tYes) (tt1 := tYes) (te := tVar 2) (wi1 := iList K (tCall (spSL K) [] E0 (tCons (tVar 1) tNil))) rfl scBlL.nd (pi_tup (pv 0)) (blkOk_by (own := [("statement", 1), ("line", 2)]) (N := NB) (sc := defScope sBlL) (by decide +kernel)) (by decide)
      (fun _ _ _ _ _ => pg_name (i := 1) scBlL.nd rfl (Or.inl rfl)) (fun _ _ _ _ _ => pts_nil) (fun _ _ _ _ _ => pi_list (pe_df SL hr3 rfl (pa_cons (pv 1) pa_nil))) (fun _ _ _ _ _ => pg_name (i := 2) scBlL.nd rfl (Or.inl rfl)) (fun _ _ _ _ _ => pts_nil) (fun _ _ _ _ _ => pv 2))), ?_⟩
    cases g with
    | tup hs ha =>
      rename_i a xs
      have xl := ha.len
      have zl := ll.len
      refine ⟨_, rfl, a, rfl, ⟨_, hs⟩, fun D nD => ⟨fun i m H' => m = xs.length - i ∧ i ≤ xs.length ∧ Ex H H' ∧ H' D = some (.lst ((zs.take i).map V.str)), ⟨xs.length, rfl, Nat.zero_le _, Ex.new nD, upd_same⟩, ?_⟩⟩
      rintro i m H' ⟨rfl, hi, e, hD⟩
      have hsq : SqT K H' a xs := ex_t e hs
      by_cases lt : i < xs.length
      · refine .inr ⟨walk_tup.goes i H' lt hsq, fun H2 => Ex H H2 ∧ H2 D = some (.lst ((zs.take (i + 1)).map V.str)), fun H2 p2 => ⟨xs.length - (i + 1), by omega, rfl, lt, p2.1, p2.2⟩, fun x H2 y => ?_⟩
        obtain ⟨eH, hx⟩ := walk_tup.yields i H' x H2 lt hsq y
        have eH2 := eH.symm
        subst eH2
        obtain ⟨d, hd, gd⟩ := ha.get hx
        obtain ⟨z, hz, l1, z3⟩ := ll.get hd
        have tk : zs.take (i + 1) = zs.take i ++ [z] := by
          rw [List.take_add_one, hz]
          rfl
        refine ⟨rfl, yes_if ?_⟩
        refine ⟨_, rfl, x, d, z, rfl, Dd.ext e _ _ gd, l1, z3, fun p H3 np e3 hp => ?_⟩
        have pD : p ≠ D := fun w => by
          rw [w, hD] at np
          cases np
        have hD3 := e3 _ _ hD
        refine ⟨p, rfl, ⟨_, sq_of hp⟩, fun j k H4 => k = 1 - j ∧ j ≤ 1 ∧ H4 p = some (.lst [.str z]) ∧ Ex H H4 ∧ H4 D = some (.lst ((zs.take (i + j)).map V.str)), ⟨1, rfl, by omega, hp, e.trans e3, hD3⟩, ?_⟩
        rintro j k H4 ⟨rfl, hj, hp4, e4, hD4⟩
        by_cases j0 : j = 0
        · subst j0
          refine .inr ⟨walk_list.goes 0 H4 (by show 0 < 1; decide) (sq_of hp4), fun H5 => H5 p = some (.lst [.str z]) ∧ Ex H H5 ∧ H5 D = some (.lst ((zs.take (i + 1)).map V.str)), fun H5 p5 => ⟨0, by omega, rfl, by omega, p5.1, p5.2.1, p5.2.2⟩, fun x2 H5 y2 => ?_⟩
          obtain ⟨eH5, hx2⟩ := walk_list.yields 0 H4 x2 H5 (by show 0 < 1; decide) (sq_of hp4) y2
          have eH6 := eH5.symm
          subst eH6
          cases hx2
          refine ⟨rfl, yes_if ?_⟩
          refine ⟨_, rfl, _, hD4, sz_lt (by rw [List.length_map, List.length_take]; omega), ?_, ?_, ?_⟩
          · rw [upd_ne pD]
            exact hp4
          · intro b o hb
            rw [upd_ne (ne_of_none hb nD)]
            exact e4 b o hb
          · rw [upd_same, tk, List.map_append]
            rfl
        · have j1 : j = 1 := by omega
          subst j1
          exact .inl ⟨walk_list.stops H4 (sq_of hp4), e4, hD4⟩
      · have ei : i = xs.length := by omega
        subst ei
        refine .inl ⟨walk_tup.stops H' hsq, kQ D H' nD e ?_⟩
        rw [xl, zl, List.take_length] at hD
        exact hD
end
end K70
set_option maxHeartbeats 4000000
namespace K70
open PySem PySem.Spec PyProof.Rows L2 Evl My LamX
abbrev sCi : Stmt := top 33
abbrev sCb : Stmt := top 34
/-- the words that are called -/
inductive C1 : PyData → List Str → Prop
  | base {d : PyData} {z : Str} : X0 d z → C1 d []
  | call {d : PyData} {s z : Str} : X0 d z → C1 (.tuple [.str "call", .str s, .tuple [d]]) [s]
def spC0 (K : PySem.W.Frag) : Sp := fun vs H Q _ => ∃ (v : V) (d : PyData) (z : Str), vs = [v] ∧ Dd K H v d ∧ X0 d z ∧ ∀ p H', H p = none → Ex H H' → H' p = some (.lst []) → Q (.ref p) H'
def spC1 (K : PySem.W.Frag) : Sp := fun vs H Q _ => ∃ (v : V) (d : PyData) (ws : List Str), vs = [v] ∧ Dd K H v d ∧ C1 d ws ∧ ∀ p H', H p = none → Ex H H' → H' p = some (.lst (ws.map V.str)) → Q (.ref p) H'
/-- what the kind of an operand is -/
theorem X0.kd {d : PyData} {z : Str} (h : X0 d z) : ∃ (k : Str) (y : PyData), d = .tuple [.str k, y] ∧ k ≠ "call" ∧ k ≠ "row" := by
  cases h with
  | num _ => exact ⟨_, _, rfl, by decide +kernel, by decide +kernel⟩
  | txt => exact ⟨_, _, rfl, by decide +kernel, by decide +kernel⟩
  | var => exact ⟨_, _, rfl, by decide +kernel, by decide +kernel⟩
section
variable {P : Program} {w : World} {K : PySem.W.Frag} {mg : Str → Option Value} {base : Heap} {f C : Addr} {fd : FuncData}
def NCi : List Str := ["expression", "each", "word"]
theorem scCi : FnScope NCi ["expression"] (defScope sCi) := ⟨rfl, rfl, rfl, by decide +kernel, rfl, by decide +kernel, by decide +kernel⟩
theorem ev_kd {σ : L2.St} {H : Hp} {v : V} {k s : Str} {ds : List PyData} (h0 : σ[0]? = some (some v)) (g : Dd K H v (.tuple (.str k :: ds))) : EvT (tTest (tOp rEq (tOp (rIxT K) (tVar 0) (tC (.int 0))) (tC (.str s)))) σ H (decide (V.str k = .str s)) := et_test (ev_eqS (EvD.str' (ed_ix (j := 0) h0 g rfl)) ev_c sc_s)
theorem ok_ci0 (F : Fun K "calls_in" "calls_in" sCi f fd) : FnOk P w K mg base CX0 1 f fd ["expression"] (spC0 K) := by
  refine F.ok scCi (fun vs H Q E h => ?_) (fun cdv A outer s0 H vs Q E hr h => ?_)
  · obtain ⟨v, d, z, rfl, _⟩ := h
    rfl
  · obtain ⟨v, d, z, rfl, g, x, kQ⟩ := h
    refine ⟨_, pss_cons (ps_if (pt_cmpR op_eq (pe_ix ix_tup (pv 0) pe_int (fun _ _ => rfl)) pe_str (nomark _)) pss_no pss_nil)
      (pss_cons (ps_if (pt_cmpR op_eq (pe_ix ix_tup (pv 0) pe_int (fun _ _ => rfl)) pe_str (nomark _)) pss_no pss_nil)
      (pss_one (ps_ret (pe_lst pa_nil)))), ?_⟩
    obtain ⟨k, y, rfl, n1, n2⟩ := x.kd
    refine q_when (b := false) (et_is (ev_kd rfl g) (decide_eq_false fun z => n1 (V.str.inj z))) (fun z => by cases z) fun _ H1 e1 => ?_
    refine q_when (b := false) (et_is (ev_kd rfl (Dd.ext e1 _ _ g)) (decide_eq_false fun z => n2 (V.str.inj z))) (fun z => by cases z) fun _ H2 e2 => ?_
    exact s_retL (el_lst ea_nil (by simp)) fun p H3 np e3 hp => kQ p H3 (fresh_back (e1.trans e2) np) ((e1.trans e2).trans e3) hp
theorem ok_ci1 (F : Fun K "calls_in" "calls_in" sCi f fd) (C0 : Df P w K mg base "calls_in" ["expression"] 1 (spC0 K)) : FnOk P w K mg base CX0 2 f fd ["expression"] (spC1 K) := by
  refine F.ok scCi (fun vs H Q E h => ?_) (fun cdv A outer s0 H vs Q E hr h => ?_)
  · obtain ⟨v, d, ws, rfl, _⟩ := h
    rfl
  · obtain ⟨v, d, ws, rfl, g, x, kQ⟩ := h
    have hr1 : Room 1 _ := hr
    refine ⟨_, pss_cons (ps_if (pt_cmpR op_eq (pe_ix ix_tup (pv 0) pe_int (fun _ _ => rfl)) pe_str (nomark _))
        (pss_one (ps_ret (pe_lst (StX.pa_star (pe_lc2 (own := [("each", 1), ("word", 2)]) (vs1 := [2]) (g := gName 1) (g1 := gName 2) (tt := tYes) (tt1 := tYes) (te := tVar 2) (wi1 := iList K (tCall (spC0 K) [] E0 (tCons (tVar 1) tNil))) rfl scCi.nd (pi_tup (pe_ix ix_tup (pv 0) pe_int (fun _ _ => rfl))) (blkOk_by (own := [("each", 1), ("word", 2)]) (N := NCi) (sc := defScope sCi) (by decide +kernel)) (by decide)
      (fun _ _ _ _ _ => pg_name (i := 1) scCi.nd rfl (Or.inl rfl)) (fun _ _ _ _ _ => pts_nil) (fun _ _ _ _ _ => pi_list (pe_df C0 hr1 rfl (pa_cons (pv 1) pa_nil))) (fun _ _ _ _ _ => pg_name (i := 2) scCi.nd rfl (Or.inl rfl)) (fun _ _ _ _ _ => pts_nil) (fun _ _ _ _ _ => pv 2)) (pa_cons (pe_ix ix_tup (pv 0) pe_int (fun _ _ => rfl)) pa_nil))))) pss_nil)
      (pss_cons (ps_if (pt_cmpR op_eq (pe_ix ix_tup (pv 0) pe_int (fun _ _ => rfl)) pe_str (nomark _)) pss_no pss_nil)
      (pss_one (ps_ret (pe_lst pa_nil)))), ?_⟩
    cases x with
    | base x =>
      obtain ⟨k, y, rfl, n1, n2⟩ := x.kd
      refine q_when (b := false) (et_is (ev_kd rfl g) (decide_eq_false fun z => n1 (V.str.inj z))) (fun z => by cases z) fun _ H1 e1 => ?_
      refine q_when (b := false) (et_is (ev_kd rfl (Dd.ext e1 _ _ g)) (decide_eq_false fun z => n2 (V.str.inj z))) (fun z => by cases z) fun _ H2 e2 => ?_
      exact s_retL (el_lst ea_nil (by simp)) fun p H3 np e3 hp => kQ p H3 (fresh_back (e1.trans e2) np) ((e1.trans e2).trans e3) hp
    | call x0 =>
      rename_i d0 s z0
      refine q_when (b := true) (et_is (ev_kd rfl g) (decide_eq_true rfl)) (fun _ H1 e1 => ?_) fun z => by cases z
      have g1 := Dd.ext e1 _ _ g
      obtain ⟨a2, w0, hv2, ha2, gw⟩ : ∃ (a2 : Addr) (w0 : V), Ev (tOp (rIxT K) (tVar 0) (tC (.int 2))) ([some v, none, none] : L2.St) H1 (.ref a2) ∧ SqT K H1 a2 [w0] ∧ Dd K H1 w0 d0 := by
        cases g1 with
        | tup hs ha =>
          cases ha with
          | cons ga1 ha =>
            cases ha with
            | cons ga2 ha =>
              cases ha with
              | cons ga3 ha =>
                cases ha
                cases ga3 with
                | tup hs3 ha3 =>
                  cases ha3 with
                  | cons gw ha4 =>
                    cases ha4
                    exact ⟨_, _, ev_op (ev_var rfl) ev_c (rv_ixT (i := 2) hs (atI_nat (j := 2) rfl)), hs3, gw⟩
      refine hv2 H1 (Ex.refl _) _ fun H2 e2 => ?_
      have g2 := Dd.ext e2 _ _ g1
      have e12 := e1.trans e2
      refine ⟨a2, rfl, ⟨_, ex_t e2 ha2⟩, fun D nD => ⟨fun i m H' => m = 1 - i ∧ i ≤ 1 ∧ Ex H2 H' ∧ H' D = some (.lst []), ⟨1, rfl, by omega, Ex.new nD, upd_same⟩, ?_⟩⟩
      rintro i m H' ⟨rfl, hi, e, hD⟩
      have hsq : SqT K H' a2 [w0] := ex_t (e2.trans e) ha2
      by_cases i0 : i = 0
      · subst i0
        refine .inr ⟨walk_tup.goes 0 H' (by show 0 < 1; decide) hsq, fun H3 => Ex H2 H3 ∧ H3 D = some (.lst []), fun H3 p3 => ⟨0, by omega, rfl, by omega, p3.1, p3.2⟩, fun x H3 y => ?_⟩
        obtain ⟨eH, hx⟩ := walk_tup.yields 0 H' x H3 (by show 0 < 1; decide) hsq y
        have eH2 := eH.symm
        subst eH2
        cases hx
        refine ⟨rfl, yes_if ?_⟩
        refine ⟨_, rfl, w0, d0, z0, rfl, Dd.ext (e2.trans e) _ _ gw, x0, fun p H4 np e4 hp => ?_⟩
        exact ⟨p, rfl, ⟨_, sq_of hp⟩, fun j k H5 => H5 = H4, ⟨0, rfl⟩, fun j k H5 h5 => by
          subst h5
          exact .inl ⟨⟨[], sq_of hp, Nat.zero_le _⟩, e.trans e4, e4 _ _ hD⟩⟩
      · have i1 : i = 1 := by omega
        subst i1
        refine .inl ⟨walk_tup.stops H' hsq, D, [], rfl, .inr (sq_of hD), ?_⟩
        have g3 := Dd.ext e _ _ g2
        refine EvD.str' (ed_ix (j := 1) rfl g3 rfl) H' (Ex.refl _) _ fun H5 e5 => ⟨(show 1 ≤ sizeLine by decide), fun p np => ?_⟩
        exact kQ p _ (fresh_back ((e12.trans e).trans e5) np) (((e12.trans e).trans e5).trans (Ex.new np)) upd_same
end
end K70
set_option maxHeartbeats 8000000
namespace K70
open PySem PySem.Spec PyProof.Rows L2 Evl My LamX
inductive CL : List PyData → List (List Str) → Prop
  | nil : CL [] []
  | cons {k n e : PyData} {ws : List Str} {ds : List PyData} {wss : List (List Str)} : C1 e ws → CL ds wss → CL (.tuple [k, n, e, .tuple [], .tuple []] :: ds) (ws :: wss)
theorem CL.get {ds : List PyData} {wss : List (List Str)} (h : CL ds wss) : ∀ {i : Nat} {d : PyData}, ds[i]? = some d → ∃ k n e ws, d = .tuple [k, n, e, .tuple [], .tuple []] ∧ wss[i]? = some ws ∧ C1 e ws := by
  induction h with
  | nil =>
    intro i d e
    simp at e
  | cons h _ ih =>
    intro i d e
    cases i with
    | zero =>
      cases e
      exact ⟨_, _, _, _, rfl, rfl, h⟩
    | succ i => exact ih (show _ = _ from e)
theorem CL.len {ds : List PyData} {wss : List (List Str)} (h : CL ds wss) : ds.length = wss.length := by
  induction h with
  | nil => rfl
  | cons _ _ ih => rw [List.length_cons, List.length_cons, ih]
theorem C1.len {e : PyData} {ws : List Str} (h : C1 e ws) : ws.length ≤ 1 := by
  cases h <;> simp
theorem flat_len {ds : List PyData} {wss : List (List Str)} (h : CL ds wss) : ∀ j, (wss.take j).flatten.length ≤ j := by
  induction h with
  | nil =>
    intro j
    simp
  | cons h _ ih =>
    intro j
    cases j with
    | zero => simp
    | succ j =>
      have z := ih j
      have l := h.len
      simp only [List.take_succ_cons, List.flatten_cons, List.length_append]
      omega
theorem C1.ref {K : PySem.W.Frag} {H : Hp} {v : V} {e : PyData} {ws : List Str} (h : C1 e ws) (g : Dd K H v e) : v ≠ .non := fun z => by
  subst z
  cases h with
  | base x =>
    obtain ⟨k, y, rfl, _⟩ := x.kd
    cases g
  | call _ => cases g
def spB0 (K : PySem.W.Frag) : Sp := fun vs H Q _ => ∃ v : V, vs = [v] ∧ Dd K H v (.tuple []) ∧ ∀ p H', H p = none → Ex H H' → H' p = some (.lst []) → Q (.ref p) H'
def spB1 (K : PySem.W.Frag) : Sp := fun vs H Q _ => ∃ (v : V) (ds : List PyData) (wss : List (List Str)), vs = [v] ∧ Dd K H v (.tuple ds) ∧ CL ds wss ∧ ds.length ≤ 900 ∧ (∀ d ∈ ds, noList d = true) ∧ ∀ p H', H p = none → Ex H H' → H' p = some (.lst (wss.flatten.map V.str)) → Q (.ref p) H'
/-- name, expression, block, other of a statement -/
def Q4 (K : PySem.W.Frag) (H : Hp) (y : V) (d : PyData) : Prop := ∃ (t : Addr) (x1 x2 x3 x4 : V) (k n e b o : PyData), y = .ref t ∧ d = .tuple [k, n, e, b, o] ∧ H t = some (.tup [x1, x2, x3, x4]) ∧ Dd K H x2 e ∧ Dd K H x3 b ∧ Dd K H x4 o
theorem Q4.ext {K : PySem.W.Frag} {H H' : Hp} {y : V} {d : PyData} (e : Ex H H') (h : Q4 K H y d) : Q4 K H' y d := by
  obtain ⟨t, x1, x2, x3, x4, k, n, ee, b, o, h1, h2, h3, h4, h5, h6⟩ := h
  exact ⟨t, x1, x2, x3, x4, k, n, ee, b, o, h1, h2, e _ _ h3, Dd.ext e _ _ h4, Dd.ext e _ _ h5, Dd.ext e _ _ h6⟩
section
variable {P : Program} {w : World} {K : PySem.W.Frag} {mg : Str → Option Value} {base : Heap} {f C : Addr} {fd : FuncData}
def NCb : List Str := ["statements", "words", "name", "expression", "block", "other", "statement"]
theorem scCb : FnScope NCb ["statements"] (defScope sCb) := ⟨rfl, rfl, rfl, by decide +kernel, rfl, by decide +kernel, by decide +kernel⟩
theorem ok_cb0 (F : Fun K "calls_in_block" "calls_in_block" sCb f fd) : FnOk P w K mg base CX0 1 f fd ["statements"] (spB0 K) := by
  refine F.ok scCb (fun vs H Q E h => ?_) (fun cdv A outer s0 H vs Q E hr h => ?_)
  · obtain ⟨v, rfl, _⟩ := h
    rfl
  · obtain ⟨v, rfl, g, kQ⟩ := h
    refine ⟨_, pss_cons (ps_set (i := 1) scCb.nd rfl (Or.inl rfl) (pe_lst pa_nil))
      (pss_cons (ps_for PassesOwn.never rfl (pi_list (pe_lc (own := [("statement", 6)]) (g := gName 6) (tt := tYes) (te := eNo) rfl scCb.nd (pi_tup (pv 0)) (blkOk_by (own := [("statement", 6)]) (N := NCb) (sc := defScope sCb) (by decide +kernel)) (fun _ _ _ _ _ => pg_name (i := 6) scCb.nd rfl (Or.inl rfl)) (fun _ _ _ _ _ => pts_nil) (fun _ _ _ _ _ => pe_no)))
        (pg_tup rfl (pgs_cons (pg_name (i := 2) scCb.nd rfl (Or.inl rfl)) (pgs_cons (pg_name (i := 3) scCb.nd rfl (Or.inl rfl)) (pgs_cons (pg_name (i := 4) scCb.nd rfl (Or.inl rfl)) (pgs_cons (pg_name (i := 5) scCb.nd rfl (Or.inl rfl)) pgs_nil))))) pss_no)
      (pss_one (ps_ret (pv 1)))), ?_⟩
    cases g with
    | tup hs ha =>
      cases ha
      rename_i a
      refine ⟨Nat.zero_le _, fun L nL => ?_⟩
      have e1 : Ex H (upd H L (.lst [])) := Ex.new nL
      have hL1 : (upd H L (.lst [])) L = some (.lst []) := upd_same
      generalize upd H L (.lst []) = H1 at e1 hL1 ⊢
      have hs1 := ex_t e1 hs
      refine ⟨_, rfl, a, rfl, ⟨_, hs1⟩, fun D nD => ⟨fun i m H' => Ex H1 H' ∧ H' D = some (.lst []), ⟨0, Ex.new nD, upd_same⟩, ?_⟩⟩
      rintro i m H' ⟨e2, hD⟩
      refine .inl ⟨⟨[], ex_t e2 hs1, Nat.zero_le _⟩, D, rfl, ⟨_, sq_of hD⟩, fun j k σ' H3 => σ' = [some (.ref a), some (.ref L), none, none, none, none, none] ∧ H3 = H', ⟨0, rfl, rfl⟩, ?_⟩
      rintro j k σ' H3 ⟨rfl, rfl⟩
      exact .inl ⟨⟨[], sq_of hD, Nat.zero_le _⟩, _, rfl, kQ L _ nL (e1.trans e2) (e2 _ _ hL1)⟩
theorem ok_cb1 (F : Fun K "calls_in_block" "calls_in_block" sCb f fd) (CI : Df P w K mg base "calls_in" ["expression"] 2 (spC1 K)) (CB : Df P w K mg base "calls_in_block" ["statements"] 1 (spB0 K)) : FnOk P w K mg base CX0 3 f fd ["statements"] (spB1 K) := by
  refine F.ok scCb (fun vs H Q E h => ?_) (fun cdv A outer s0 H vs Q E hr h => ?_)
  · obtain ⟨v, ds, wss, rfl, _⟩ := h
    rfl
  · obtain ⟨v, ds, wss, rfl, g, cl, ln, nlD, kQ⟩ := h
    have hr2 : Room 2 _ := hr
    have hr1 : Room 1 _ := hr2.mono (by decide)
    refine ⟨_, pss_cons (ps_set (i := 1) scCb.nd rfl (Or.inl rfl) (pe_lst pa_nil))
      (pss_cons (ps_for PassesOwn.never rfl (pi_list (pe_lc (own := [("statement", 6)]) (g := gName 6) (tt := tYes) (te := tSl (rSlT K) (tVar 6) (tPart (tC (.int 1))) tNoPart) rfl scCb.nd (pi_tup (pv 0)) (blkOk_by (own := [("statement", 6)]) (N := NCb) (sc := defScope sCb) (by decide +kernel)) (fun _ _ _ _ _ => pg_name (i := 6) scCb.nd rfl (Or.inl rfl)) (fun _ _ _ _ _ => pts_nil) (fun _ _ _ _ _ => pe_slice sl_tup (pv 6) (po_some pe_int) po_none)))
        (pg_tup rfl (pgs_cons (pg_name (i := 2) scCb.nd rfl (Or.inl rfl)) (pgs_cons (pg_name (i := 3) scCb.nd rfl (Or.inl rfl)) (pgs_cons (pg_name (i := 4) scCb.nd rfl (Or.inl rfl)) (pgs_cons (pg_name (i := 5) scCb.nd rfl (Or.inl rfl)) pgs_nil)))))
        (pss_cons (ps_if (pt_cmpR op_notN (pv 3) pe_non (nomark _)) (pss_one (ps_set (i := 1) scCb.nd rfl (Or.inl rfl) (pe_lst (StX.pa_star (pv 1) (StX.pa_star (pe_df CI hr2 rfl (pa_cons (pv 3) pa_nil)) pa_nil))))) pss_nil)
        (pss_one (ps_set (i := 1) scCb.nd rfl (Or.inl rfl) (pe_lst (StX.pa_star (pv 1) (StX.pa_star (pe_df CB hr1 rfl (pa_cons (pv 4) pa_nil)) (StX.pa_star (pe_df CB hr1 rfl (pa_cons (pv 5) pa_nil)) pa_nil))))))))
      (pss_one (ps_ret (pv 1)))), ?_⟩
    cases g with
    | tup hs ha =>
    rename_i a xs
    have xl := ha.len
    have wl := cl.len
    refine ⟨Nat.zero_le _, fun L nL => ?_⟩
    have e1 : Ex H (upd H L (.lst [])) := Ex.new nL
    have hL1 : (upd H L (.lst [])) L = some (.lst []) := upd_same
    generalize upd H L (.lst []) = H1 at e1 hL1 ⊢
    have hs1 := ex_t e1 hs
    refine ⟨_, rfl, a, rfl, ⟨_, hs1⟩, fun D nD => ⟨fun i m H' => m = xs.length - i ∧ i ≤ xs.length ∧ Ex H1 H' ∧ ∃ ys : List V, ys.length = i ∧ H' D = some (.lst ys) ∧ ∀ (j : Nat) (y : V) (d : PyData), ys[j]? = some y → ds[j]? = some d → Q4 K H' y d, ⟨xs.length, rfl, Nat.zero_le _, Ex.new nD, [], rfl, upd_same, fun j y d h => by simp at h⟩, ?_⟩⟩
    rintro i m H' ⟨rfl, hi, e2, ys, yl, hD, q4⟩
    have hsq : SqT K H' a xs := ex_t e2 hs1
    by_cases lt : i < xs.length
    · refine .inr ⟨walk_tup.goes i H' lt hsq, fun H2 => Ex H1 H2 ∧ ∃ ys : List V, ys.length = i + 1 ∧ H2 D = some (.lst ys) ∧ ∀ (j : Nat) (y : V) (d : PyData), ys[j]? = some y → ds[j]? = some d → Q4 K H2 y d, fun H2 p2 => ⟨xs.length - (i + 1), by omega, rfl, lt, p2.1, p2.2⟩, fun x H2 y => ?_⟩
      obtain ⟨eH, hx⟩ := walk_tup.yields i H' x H2 lt hsq y
      have eH2 := eH.symm
      subst eH2
      obtain ⟨d, hd, gd⟩ := ha.get hx
      obtain ⟨k, n, ee, ws, rfl, hw, c1⟩ := cl.get hd
      have gd2 := Dd.ext (e1.trans e2) _ _ gd
      cases gd2 with
      | tup ht hv =>
      rename_i t vs
      obtain ⟨x1, x2, x3, x4, x5, rfl, g1, g2, g3, g4, g5⟩ := dds5 hv
      refine ⟨rfl, yes_if ?_⟩
      refine ⟨_, rfl, 1, rfl, t, _, rfl, ht, (show ¬(HT.sIx 5 0 (some 1) = 0 ∧ HT.sIx 5 5 none = 5) by decide), fun p np => ?_⟩
      have ep : Ex H' (upd H' p (.tup (cutV [x1, x2, x3, x4, x5] (some 1) none))) := Ex.new np
      have hp : (upd H' p (.tup (cutV [x1, x2, x3, x4, x5] (some 1) none))) p = some (.tup [x2, x3, x4, x5]) := upd_same
      generalize upd H' p (.tup (cutV [x1, x2, x3, x4, x5] (some 1) none)) = H3 at ep hp ⊢
      have hD3 := ep _ _ hD
      have new4 : Q4 K H3 (.ref p) (.tuple [k, n, ee, .tuple [], .tuple []]) := ⟨p, x2, x3, x4, x5, k, n, ee, _, _, rfl, rfl, hp, Dd.ext ep _ _ g3, Dd.ext ep _ _ g4, Dd.ext ep _ _ g5⟩
      have toD : ∀ {y : V} {d : PyData}, noList d = true → Q4 K H3 y d → Q4 K (upd H3 D (.lst (ys ++ [.ref p]))) y d := fun {y d} nl q => by
        obtain ⟨t, z1, z2, z3, z4, k, n, e0, b, o, h1, h2, h3, h4, h5, h6⟩ := q
        subst h2
        have nl2 : (noList k && (noList n && (noList e0 && (noList b && (noList o && true))))) = true := nl
        simp only [Bool.and_eq_true, and_true] at nl2
        refine ⟨t, z1, z2, z3, z4, k, n, e0, b, o, h1, rfl, ?_, Dd.upd hD3 _ _ nl2.2.2.1 h4, Dd.upd hD3 _ _ nl2.2.2.2.1 h5, Dd.upd hD3 _ _ nl2.2.2.2.2 h6⟩
        rw [upd_ne (fun w => by rw [w, hD3] at h3; cases h3)]
        exact h3
      refine ⟨_, hD3, sz_lt (by omega), fun b o hb => ?_, ys ++ [.ref p], by rw [List.length_append, yl]; rfl, upd_same, fun j yy d hj hdj => ?_⟩
      · rw [upd_ne (ne_of_none hb nD)]
        exact ep _ _ (e2 _ _ hb)
      · have nl := nlD d (List.mem_of_getElem? hdj)
        by_cases hlt : j < ys.length
        · rw [List.getElem?_append_left hlt] at hj
          exact toD nl ((q4 j yy d hj hdj).ext ep)
        · rw [List.getElem?_append_right (Nat.le_of_not_lt hlt)] at hj
          obtain ⟨z1, z2⟩ := List.getElem?_eq_some_iff.mp hj
          have j0 : j - ys.length = 0 := by simpa using z1
          have ji : j = i := by omega
          subst ji
          rw [hd] at hdj
          cases hdj
          have yp : V.ref p = yy := by simpa [j0] using z2
          subst yp
          exact toD nl new4
    · have ei : i = xs.length := by omega
      refine .inl ⟨by rw [ei]; exact walk_tup.stops H' hsq, D, rfl, ⟨_, sq_of hD⟩, for_list (xs := ys) (fun i σ' H3 => Ex H' H3 ∧ ∃ (L : Addr) (y2 y3 y4 y5 : Option V), σ' = [some (.ref a), some (.ref L), y2, y3, y4, y5, none] ∧ H L = none ∧ H3 L = some (.lst ((wss.take i).flatten.map V.str))) ?_ ?_ ?_ ?_⟩
      · exact ⟨Ex.refl _, L, _, _, _, _, rfl, nL, e2 _ _ hL1⟩
      · rintro j σ' H3 _ ⟨e3, _⟩
        exact sq_of (e3 _ _ hD)
      · rintro j y σ' H3 hy ⟨e3, M2, y2, y3, y4, y5, rfl, nM2, hM2⟩
        have jl : j < ds.length := by
          have := (List.getElem?_eq_some_iff.mp hy).1
          omega
        obtain ⟨d, hd⟩ : ∃ d, ds[j]? = some d := ⟨_, List.getElem?_eq_getElem jl⟩
        obtain ⟨k, n, ee, ws, rfl, hw, c1⟩ := cl.get hd
        obtain ⟨t, z1, z2, z3, z4, k', n', e', b', o', rfl, hde, ht, ge, gb, go⟩ := (q4 j y _ hy hd).ext e3
        cases hde
        have tk : (wss.take (j + 1)).flatten = (wss.take j).flatten ++ ws := by
          rw [List.take_add_one, hw, List.flatten_append]
          simp
        have sz : ∀ j, (wss.take j).flatten.length ≤ j := fun j => flat_len cl j
        refine ⟨t, _, rfl, st_of ht, rfl, _, _, rfl, _, _, rfl, _, _, rfl, _, _, rfl, rfl, ?_⟩
        have nn : EvT (tTest (tOp (fun x y H Q => y = .non ∧ Q (.bl (!decide (x = .non))) H) (tVar 3) (tC .non))) ([some (.ref a), some (.ref M2), some z1, some z2, some z3, some z4, none] : L2.St) H3 (!decide (z2 = .non)) := et_test fun H4 e4 Q q => ⟨_, rfl, rfl, q H4 (Ex.refl _)⟩
        refine q_when (b := true) (et_is nn (by rw [decide_eq_false (c1.ref ge)]; rfl)) (fun _ H4 e4 => ?_) fun z => by cases z
        refine ⟨_, rfl, M2, _, rfl, .inr (sq_of (e4 _ _ hM2)), _, rfl, z2, ee, ws, rfl, Dd.ext e4 _ _ ge, c1, fun p H5 np e5 hp => ⟨p, _, rfl, .inr (sq_of hp), ?_⟩⟩
        have szj := sz j
        have wl1 := c1.len
        refine ⟨sz_of (by rw [List.append_nil, List.length_append, List.length_map, List.length_map]; omega), fun L3 nL3 => ?_⟩
        have e6 : Ex H5 (upd H5 L3 (.lst ((wss.take j).flatten.map V.str ++ (ws.map V.str ++ [])))) := Ex.new nL3
        have hL3 : (upd H5 L3 (.lst ((wss.take j).flatten.map V.str ++ (ws.map V.str ++ [])))) L3 = some (.lst ((wss.take (j + 1)).flatten.map V.str)) := by
          rw [upd_same, tk, List.map_append, List.append_nil]
        generalize upd H5 L3 (.lst ((wss.take j).flatten.map V.str ++ (ws.map V.str ++ []))) = H6 at e6 hL3 ⊢
        have e36 := (e4.trans e5).trans e6
        refine ⟨_, rfl, L3, _, rfl, .inr (sq_of hL3), _, rfl, z3, rfl, Dd.ext e36 _ _ gb, fun p2 H7 np2 e7 hp2 => ⟨p2, _, rfl, .inr (sq_of hp2), _, rfl, z4, rfl, Dd.ext (e36.trans e7) _ _ go, fun p3 H8 np3 e8 hp3 => ⟨p3, _, rfl, .inr (sq_of hp3), ?_⟩⟩⟩
        have szj1 := sz (j + 1)
        refine ⟨sz_of (by rw [List.append_nil, List.append_nil, List.append_nil, List.length_map]; omega), fun L4 nL4 => ?_⟩
        have e38 := (e36.trans e7).trans e8
        refine ⟨(e3.trans e38).trans (Ex.new nL4), L4, _, _, _, _, rfl, fresh_back ((((e1.trans e2).trans e3).trans e38)) nL4, ?_⟩
        rw [upd_same]
        simp
      · rintro σ' H3 ⟨e3, M2, y2, y3, y4, y5, rfl, nM2, hM2⟩
        refine ⟨_, rfl, kQ M2 H3 nM2 ((e1.trans e2).trans e3) ?_⟩
        rw [show ys.length = wss.length by omega, List.take_length] at hM2
        exact hM2
end
end K70
set_option maxHeartbeats 2000000
/-! C.m(..), m a static method of the class; str(x) of an instance with an own __str__ -/
namespace My
open PySem PySem.Spec PyProof.Rows L2
/-- C.m is a static method: its record at p, its def at g -/
structure SMet (K : PySem.W.Frag) (C : Addr) (mc : Value) (m : Str) (p g : Addr) : Prop where
  at_ : PySem.W.findCls K (.ref C) mc m = some (.get (.builtin "staticmethod.__get__") (.ref p) .none (.ref C))
  rc : ∃ rest, PySem.W.recIn K p "staticmethod" = some (.ref g :: rest)
  kp : PySem.W.keepIn K (.ref g) = true
section
variable {X : Cx} {pins : List (Addr × Obj)} {σ : L2.St} {H : Hp} {s : Shared} {C p g : Addr} {mc : Value} {m : Str} {A : Around} {E : Value → Shared → Prop}
theorem getsm_ok {pl : Sem Bool} {Q : Value × List Value → Shared → Prop} (I : Inv X pins σ H s) (r : ClX.CRead X.K C mc) (k : SMet X.K C mc m p g) (h : ∀ s', Inv X pins σ H s' → Q (.ref g, []) s') : wpAny (model X.prog X.w) A (getMethod (.ref C) m pl) Q E s := by
  obtain ⟨rest, hp⟩ := k.rc
  refine PySem.W.method_cls I.kIn r.ga (PySem.W.cls_bind I.kIn r.rd k.at_ ?_)
  refine wpAny_call (PySem.W.sm_get (s := { s with toks := s.toks + 1 }) I.kIn hp (PySem.W.handed_on rfl ?_))
  exact h _ (I.tok _)
end
/-- e.m(..), e the class at C, m a static method -/
def tSMeth (C : Addr) (sp : Sp) (E : XK) (ta : TE) (t : TA) : TE := fun σ H Q => ta σ H fun x H1 => x = .ref C ∧ t σ H1 fun vs H2 => sp vs H2 Q E
section
variable {X : Cx} {CX : CXT} {k : Nat} {C p g : Addr} {mc : Value} {fd : FuncData} {ps : List Str} {sp : Sp} {E : XK} {o e : Expr} {es : List Expr} {m : Str} {pos apos : Pos} {ta : TE} {t : TA} {pl : Sem Bool}
theorem pe_smeth (he : PE X o ta) (r : ClX.CRead X.K C mc) (c : SMet X.K C mc m p g) (F : FnOk X.prog X.w X.K X.mg X.base CX k g fd ps sp) (hb : Binds X.K fd ps []) (hr : Room k X.A) (hx : Passes CX X E) (ha : PA X (e :: es) t)
    (hst : starEach (e :: es) X.env = (false, eval e X.env) :: starEach es X.env := by rfl) (hpl : (backTo pos (starEach es X.env)).any (·.1) = false := by rfl)
    (ht : eval (.Call (.Attribute o m apos) (e :: es) [] pos) X.env = (do
      let ov ← eval o X.env
      standAt apos.atName
      let (f, first) ← holding [ov] (getMethod ov m pl)
      callWith pos f first (backTo pos (starEach (e :: es) X.env)) (backToKw pos (keywordEach [] X.env))) := by rfl) :
    PE X (.Call (.Attribute o m apos) (e :: es) [] pos) (tSMeth C sp E ta t) := by
  refine ⟨fun pins s σ H Q I h => ?_⟩
  refine PySem.W.methodCall_KW (pl := pl) (thn (he.run pins s σ H _ I h) fun u s1 ⟨x, H1, I1, rx, ex, q⟩ => ?_) ht
  subst ex
  obtain rfl : u = Value.ref C := rx
  refine getsm_ok I1 r c fun s2 I2 => ?_
  refine PySem.W.callWith_K (h₀ := X.base) I2.ok.mod.kin c.kp (thn (ha.run pos pins s2 σ H1 _ I2 q) fun us s3 ⟨vs, H2, I3, rv, q2⟩ => ⟨I3.kIn, ?_⟩) hst hpl
  exact run_fn F hr hb .nil hx I3 rv (by rw [List.append_nil]; exact q2)
/-- str(x), x an instance with an own __str__ -/
def rStrI (C : Addr) (sp : Sp) (E : XK) : List V → Hp → VK → Prop := fun xs H Q => ∃ a dx fs, xs = [.ref a] ∧ H a = some (.ins C dx fs) ∧ sp xs H (fun v H' => ∃ z : Str, v = .str z ∧ Q (.str z) H') E
theorem call_strI (hs : PySem.W.findIn X.K (.ref C) "__str__" = some (some (.ref g))) (hf : PySem.W.isFn X.K (.ref g) = true)
    (F : FnOk X.prog X.w X.K X.mg X.base CX k g fd ps sp) (hb : Binds X.K fd ps []) (hr : Room (k + 2) X.A) (hx : Passes CX X E) : CallR X (.type "str") (rStrI C sp E) := by
  intro pins s σ H xs us Q I r h
  obtain ⟨a, dx, fs, rfl, ha, q⟩ := h
  obtain ⟨mA, J, _⟩ := ins_get I.hok ha
  obtain ⟨od, J, _⟩ := J.look
  obtain ⟨u, rfl, ru⟩ : ∃ u, us = [u] ∧ RelV (.ref a) u := by
    cases r with
    | cons p q =>
      cases q
      exact ⟨_, rfl, p⟩
  cases (show u = Value.ref a from ru)
  have hr1 : Room (k + 1) X.A.in1 := hr.in1
  have hr2 : Room k X.A.in1.in1 := hr1.in1
  have hl : ([Value.ref a] : List Value).length = ps.length := by
    rw [← F.len _ _ _ _ q]
    rfl
  refine PySem.W.kso_call hr2.units0 I.kIn J hs hf (wpAny_call (codeAny_mono (F.run X.A.in1.in1 X.stack s H ⟨[.ref a], []⟩ [.ref a] [.ref a] _ E hr2 I.env0.in1.in1 (by simpa using hb s [.ref a] I.kIn (by simpa using hl)) (.cons rfl .nil) q) fun r s' hq => ?_))
  cases r with
  | error er => exact hx pins σ H s er s' I hq
  | ok fl =>
    cases fl with
    | ret u =>
      obtain ⟨v, H', I', rv, z, rfl, qz⟩ := I.after hq
      obtain ⟨t, e⟩ := (show ∃ t, u = Value.str z t from rv)
      cases e
      exact ⟨.str z, H', I', ⟨t, rfl⟩, qz⟩
    | next => exact False.elim hq
    | brk => exact False.elim hq
    | cont => exact False.elim hq
end
end My
set_option maxHeartbeats 2000000
/-! y in x, y not in x: x an instance with an own __contains__ that answers True or False -/
namespace My
open PySem PySem.Spec PyProof.Rows L2
section
variable {prog : Program} {w : World} {K : PySem.W.Frag} {A : Around} {E : Value → Shared → Prop} {s : Shared} {x C f : Addr} {ox : Obj} {od : Option Obj} {v : Value}
theorem contains_fn {Q : Bool → Shared → Prop} (X : K.In s.heap) (I : PySem.W.InstAt s.heap x ox C od) (hs : PySem.W.findIn K (.ref C) "__contains__" = some (some (.ref f))) (hf : PySem.W.typeIn K (.ref f) = some (.type "function"))
    (h : wpAny (model prog w) A (call (.ref f) [.ref x, v]) (fun r s' => ∃ b, r = .bool b ∧ Q b s') E s) : wpAny (model prog w) A (contains (.ref x) v) Q E s := by
  unfold contains
  refine wpAny_holding ?_
  show wpAny _ _ (specialOf (.ref x) "__contains__" >>= _) _ _ _
  refine wpAny_bind (wpAny_bind (I.type.here ((PySem.W.looks_findIn X hs).here ?_)))
  rw [if_neg (show ¬(some (Value.ref f) == some Value.none) = true from fun z => by cases (beq_iff_eq.mp z))]
  unfold callSpecialUnlessNone?
  refine wpAny_bind (wpAny_bind (wpAny_bind (I.type.here ((PySem.W.looks_findIn X hs).here (wpAny_holding (wpAny_bind ((PySem.W.bind_fn X _ hf).here ?_)))))))
  dsimp only
  rw [if_neg (show ¬(Value.ref f == Value.none) = true from fun z => by cases (beq_iff_eq.mp z))]
  refine wpAny_bind (wpAny_mono h (fun r s' z => ?_) fun _ _ z => z)
  obtain ⟨b, rfl, q⟩ := z
  exact wpAny_pure (wpAny_truthy_bool q)
end
def rInI (C : Addr) (sp : Sp) (E : XK) (neg : Bool) : R2 := fun y x H Q => ∃ a dx fs, x = .ref a ∧ H a = some (.ins C dx fs) ∧ sp [x, y] H (fun v H' => ∃ b : Bool, v = .bl b ∧ Q (.bl (if neg then !b else b)) H') E
section
variable {X : Cx} {CX : CXT} {k : Nat} {C g : Addr} {fd : FuncData} {ps : List Str} {sp : Sp} {E : XK}
theorem op_inI (hs : PySem.W.findIn X.K (.ref C) "__contains__" = some (some (.ref g))) (hf : PySem.W.typeIn X.K (.ref g) = some (.type "function"))
    (F : FnOk X.prog X.w X.K X.mg X.base CX k g fd ps sp) (hb : Binds X.K fd ps []) (hr : Room k X.A) (hx : Passes CX X E) : OpR X (compareOp .In) (rInI C sp E false) := by
  intro pins s σ H y x v u Q I ry rx h
  obtain ⟨a, dx, fs, rfl, ha, q⟩ := h
  cases (show u = Value.ref a from rx)
  obtain ⟨mA, J, _⟩ := ins_get I.hok ha
  obtain ⟨od, J, _⟩ := J.look
  have z := run_fn (us := [.ref a, v]) (vs := [.ref a, y]) F hr hb .nil hx I (.cons rfl (.cons ry .nil)) (by rw [List.append_nil]; exact q)
  show wpAny _ _ (contains (.ref a) v >>= fun b => pure (Value.bool b)) _ _ _
  refine wpAny_bind (contains_fn I.kIn J hs hf (wpAny_mono z (fun r s' z => ?_) fun _ _ z => z))
  obtain ⟨z', H', I', rz, b, ez, qb⟩ := z
  subst ez
  cases (show r = Value.bool b from rz)
  exact ⟨b, rfl, wpAny_pure ⟨.bl b, H', I', rfl, qb⟩⟩
theorem op_notInI (hs : PySem.W.findIn X.K (.ref C) "__contains__" = some (some (.ref g))) (hf : PySem.W.typeIn X.K (.ref g) = some (.type "function"))
    (F : FnOk X.prog X.w X.K X.mg X.base CX k g fd ps sp) (hb : Binds X.K fd ps []) (hr : Room k X.A) (hx : Passes CX X E) : OpR X (compareOp .NotIn) (rInI C sp E true) := by
  intro pins s σ H y x v u Q I ry rx h
  obtain ⟨a, dx, fs, rfl, ha, q⟩ := h
  cases (show u = Value.ref a from rx)
  obtain ⟨mA, J, _⟩ := ins_get I.hok ha
  obtain ⟨od, J, _⟩ := J.look
  have z := run_fn (us := [.ref a, v]) (vs := [.ref a, y]) F hr hb .nil hx I (.cons rfl (.cons ry .nil)) (by rw [List.append_nil]; exact q)
  show wpAny _ _ (contains (.ref a) v >>= fun b => pure (Value.bool (!b))) _ _ _
  refine wpAny_bind (contains_fn I.kIn J hs hf (wpAny_mono z (fun r s' z => ?_) fun _ _ z => z))
  obtain ⟨z', H', I', rz, b, ez, qb⟩ := z
  subst ez
  cases (show r = Value.bool b from rz)
  exact ⟨b, rfl, wpAny_pure ⟨.bl (!b), H', I', rfl, qb⟩⟩
end
end My
set_option maxHeartbeats 4000000
namespace K70
open PySem PySem.Spec PyProof.Rows L2 Evl My LamX
/-! Reader(text) and the class Script -/
def scBody : List Stmt := match top 36 with
  | .ClassDef _ _ _ body .. => body
  | _ => []
def sth (i : Nat) : Stmt := scBody.getD i (.Pass ⟨0, 0, 0, 0⟩)
abbrev cInit : Stmt := sth 0
abbrev cRead : Stmt := sth 1
abbrev cStr : Stmt := sth 2
abbrev cEq : Stmt := sth 3
abbrev cLen : Stmt := sth 5
abbrev cIn : Stmt := sth 6
abbrev cWords : Stmt := sth 7
theorem ex_made {H1 H2 H' : Hp} {C x dx : Addr} (e : Ex H1 H2) (n1 : H2 x = none) (n2 : H2 dx = none) (b : But x (upd (upd H2 dx (.own x)) x (.ins C dx [])) H') : Ex H1 H' := fun a o h => by
  have h2 := e a o h
  have a1 : a ≠ x := ne_of_none h2 n1
  have a2 : a ≠ dx := ne_of_none h2 n2
  exact b a o a1 (by rw [upd_ne a1, upd_ne a2]; exact h2)
def spRI (C : Addr) : Sp := fun vs H Q _ => ∃ (R dx : Addr) (t : Str) (b : Nat) (items : List Tok3), vs = [.ref R, .str t] ∧ H R = some (.ins C dx []) ∧ t.length ≤ 2000 ∧ RunAt t BLK 0 b ∧ Lay t b items ∧ ∀ T xs H', But R H H' → Rdr C H' R T xs (items ++ [endT t]) 0 → Q .non H'
structure ScC (K : PySem.W.Frag) (C : Addr) : Prop where
  cl : Cls K C
  ns : NoAttr K C "statements"
def ScAt (K : PySem.W.Frag) (C : Addr) (H : Hp) (S : Addr) (ds : List PyData) : Prop := ∃ dx v, H S = some (.ins C dx [("statements", v)]) ∧ Dd K H v (.tuple ds)
theorem ScAt.ext {K : PySem.W.Frag} {C : Addr} {H H' : Hp} {S : Addr} {ds : List PyData} (e : Ex H H') (h : ScAt K C H S ds) : ScAt K C H' S ds := by
  obtain ⟨dx, v, h1, h2⟩ := h
  exact ⟨dx, v, e _ _ h1, Dd.ext e _ _ h2⟩
def spSI (K : PySem.W.Frag) (C : Addr) : Sp := fun vs H Q _ => ∃ (S dx : Addr) (v : V) (ds : List PyData), vs = [.ref S, v] ∧ H S = some (.ins C dx []) ∧ Dd K H v (.tuple ds) ∧ ∀ H', But S H H' → ScAt K C H' S ds → Q .non H'
section
variable {P : Program} {w : World} {K : PySem.W.Frag} {mg : Str → Option Value} {base : Heap} {f C : Addr} {fd : FuncData}
theorem scRI : FnScope ["self", "text"] ["self", "text"] (defScope rInit) := ⟨rfl, rfl, rfl, by decide +kernel, rfl, by decide +kernel, by decide +kernel⟩
theorem ok_ri (F : Fun K "__init__" "Reader.__init__" rInit f fd) (c : RdC K C) (TO : Df P w K mg base "tokens_of" ["text"] 4 spTok) : FnOk P w K mg base CX0 5 f fd ["self", "text"] (spRI C) := by
  refine F.ok scRI (fun vs H Q E h => ?_) (fun cdv A outer s0 H vs Q E hr h => ?_)
  · obtain ⟨R, dx, t, b, items, rfl, _⟩ := h
    rfl
  · obtain ⟨R, dx, t, b, items, rfl, hR, tl, run, lay, kQ⟩ := h
    have hr4 : Room 4 _ := hr
    refine ⟨_, pss_cons (ps_fld (pv 0) (pe_df TO hr4 rfl (pa_cons (pv 1) pa_nil)) rfl) (pss_one (ps_fld (pv 0) pe_int rfl)), ?_⟩
    refine ⟨_, rfl, t, b, items, rfl, tl, run, lay, fun T xs H1 nT e1 hT tk => ?_⟩
    have hR1 := e1 _ _ hR
    have RT : R ≠ T := fun z => by
      rw [z, hT] at hR1
      cases hR1
    refine ⟨_, rfl, R, C, dx, _, rfl, hR1, c.cl, c.nt, (show 0 < 1000 by decide), ?_⟩
    refine ⟨_, rfl, R, C, dx, _, rfl, upd_same, c.cl, c.np, (show 1 < 1000 by decide), ?_⟩
    refine kQ T xs _ (((But.ofEx e1).upd).upd) ⟨⟨dx, upd_same⟩, ?_, tk.pres fun b ys hb => ?_⟩
    · rw [upd_ne (Ne.symm RT), upd_ne (Ne.symm RT)]
      exact hT
    · have n : b ≠ R := fun z => by
        rw [z, hR1] at hb
        cases hb
      rw [upd_ne n, upd_ne n]
      exact hb
theorem scSI : FnScope ["self", "statements"] ["self", "statements"] (defScope cInit) := ⟨rfl, rfl, rfl, by decide +kernel, rfl, by decide +kernel, by decide +kernel⟩
theorem ok_si {dvs : List V} (F : FunD K "__init__" "Script.__init__" (defArgs cInit) (defBody cInit) (defScope cInit) dvs [] f fd) (c : ScC K C) (gt : mg "tuple" = none) : FnOk P w K mg base CX0 1 f fd ["self", "statements"] (spSI K C) := by
  refine F.ok (CX := CX0) scSI (fun vs H Q E h => ?_) (fun cdv A outer s0 H vs Q E hr h => ?_)
  · obtain ⟨S, dx, v, ds, rfl, _⟩ := h
    rfl
  · obtain ⟨S, dx, v, ds, rfl, hS, g, kQ⟩ := h
    refine ⟨_, pss_one (ps_fld (pv 0) (pe_callTy call_tuple_of (by rfl) gt (by decide +kernel) (pa_cons (pv 1) pa_nil)) rfl), ?_⟩
    have b1 : But S H (upd H S (.ins C dx [("statements", v)])) := (But.refl S H).upd
    have g1 := dd_ins hS b1 _ _ g
    cases g with
    | tup hs ha =>
      exact ⟨_, rfl, _, _, rfl, .inr ⟨hs, _, rfl, S, C, dx, _, rfl, hS, c.cl, c.ns, (show 0 < 1000 by decide), kQ _ b1 ⟨dx, _, upd_same, g1⟩⟩⟩
/-- a class of one maker -/
structure Mk1 (P : Program) (w : World) (K : PySem.W.Frag) (mg : Str → Option Value) (base : Heap) (C : Addr) (nm : Str) (ps : List Str) (k : Nat) (sp : Sp) : Prop where
  ex : ∃ (f : Addr) (fd : FuncData), Mk K C f ∧ FnOk P w K mg base CX0 k f fd ps sp ∧ Binds K fd ps []
  g : mg nm = some (.ref C)
theorem pe_mkA {X : Cx} {C : Addr} {nm : Str} {ps : List Str} {k : Nat} {sp : Sp} {e : Expr} {es : List Expr} {t : TA} {p pos : Pos} (M : Mk1 X.prog X.w X.K X.mg X.base C nm ps k sp) (hr : Room (k + 1) X.A) (hg : Gl X nm) (ha : L2.PA X (e :: es) t) (hdb : (nm == ("__debug__" : Str)) = false := by decide)
    (he : starEach (e :: es) X.env = (false, eval e X.env) :: starEach es X.env := by rfl) (hpl : (backTo pos (starEach es X.env)).any (·.1) = false := by rfl) :
    PE X (.Call (.Name nm p) (e :: es) [] pos) (tMake C sp [] E0 t) := by
  obtain ⟨f, fd, M1, F, b⟩ := M.ex
  exact pe_make M1 F hr hg M.g b .nil pass0 ha hdb he hpl
def spRead (K : PySem.W.Frag) (CS : Addr) : Sp := fun vs H Q _ => ∃ (t : Str) (b : Nat) (items : List Tok3) (ds : List PyData), vs = [.str t] ∧ t.length ≤ 2000 ∧ RunAt t BLK 0 b ∧ Lay t b items ∧ PA PO1 (items ++ [endT t]) 0 ds ∧ ds.length ≤ 900 ∧ ∀ S H', H S = none → Ex H H' → ScAt K CS H' S ds → Q (.ref S) H'
theorem scRead : FnScope ["text"] ["text"] (defScope cRead) := ⟨rfl, rfl, rfl, by decide +kernel, rfl, by decide +kernel, by decide +kernel⟩
theorem ok_read {CR CS : Addr} {k : Nat} (k6 : 6 ≤ k) (F : Fun K "read" "Script.read" cRead f fd) (c : RdC K CR) (MR : Mk1 P w K mg base CR "Reader" ["self", "text"] 5 (spRI CR)) (AL : MD P w K mg base CR "all_statements" ["self"] k (spAll K CR PO1)) (MS : Mk1 P w K mg base CS "Script" ["self", "statements"] 1 (spSI K CS)) : FnOk P w K mg base CX0 (k + 1) f fd ["text"] (spRead K CS) := by
  refine F.ok scRead (fun vs H Q E h => ?_) (fun cdv A outer s0 H vs Q E hr h => ?_)
  · obtain ⟨t, b, items, ds, rfl, _⟩ := h
    rfl
  · obtain ⟨t, b, items, ds, rfl, tl, run, lay, pa, ln, kQ⟩ := h
    have hrk : Room k _ := hr
    have hr6 : Room 6 _ := hrk.mono k6
    have hr2 : Room 2 _ := hr6.mono (by decide)
    refine ⟨_, pss_one (ps_ret (pe_mkA MS hr2 rfl (pa_cons (pe_md0 AL c.cl hrk (pe_mkA MR hr6 rfl (pa_cons (pv 0) pa_nil))) pa_nil))), ?_⟩
    refine ⟨_, rfl, fun R dx nR ndx dR => ?_⟩
    refine ⟨R, dx, t, b, items, rfl, upd_same, tl, run, lay, fun T xs H1 b1 rd => ⟨rfl, ?_⟩⟩
    have e1 : Ex H H1 := ex_made (Ex.refl H) nR ndx b1
    obtain ⟨⟨dx1, r1⟩, _⟩ := id rd
    refine ⟨R, dx1, _, rfl, r1, rfl, R, T, xs, _, 0, ds, rfl, rd, pa, ln, fun v H2 b2 g2 => ?_⟩
    have e2 : Ex H H2 := fun a o h => b2 a o (ne_of_none h nR) (e1 a o h)
    intro S dS nS ndS dd
    have e3 : Ex H2 (upd (upd H2 dS (.own S)) S (.ins CS dS [])) := (Ex.new ndS).trans (Ex.new (by rw [upd_ne (Ne.symm dd)]; exact nS))
    refine ⟨S, dS, v, ds, rfl, upd_same, Dd.ext e3 _ _ g2, fun H3 b3 sc => ⟨rfl, ?_⟩⟩
    exact kQ S H3 (fresh_back e2 nS) (ex_made e2 nS ndS b3) sc
end
end K70
set_option maxHeartbeats 4000000
namespace K70
open PySem PySem.Spec PyProof.Rows L2 Evl My LamX
def spStr (K : PySem.W.Frag) (C : Addr) : Sp := fun vs H Q _ => ∃ (S : Addr) (ds : List PyData) (zs : List Str), vs = [.ref S] ∧ ScAt K C H S ds ∧ LL ds zs ∧ ds.length ≤ 1 ∧ ∀ H', Ex H H' → Q (.str (Txt.join "\n" zs)) H'
def spLen (K : PySem.W.Frag) (C : Addr) : Sp := fun vs H Q _ => ∃ (S : Addr) (ds : List PyData), vs = [.ref S] ∧ ScAt K C H S ds ∧ ∀ H', Ex H H' → Q (.int (ds.length : Int)) H'
def spIn (K : PySem.W.Frag) (C : Addr) : Sp := fun vs H Q _ => ∃ (S : Addr) (ds : List PyData) (wss : List (List Str)) (x : Str), vs = [.ref S, .str x] ∧ ScAt K C H S ds ∧ CL ds wss ∧ ds.length ≤ 900 ∧ (∀ d ∈ ds, noList d = true) ∧ ∀ H', Ex H H' → Q (.bl (decide (x ∈ wss.flatten))) H'
section
variable {P : Program} {w : World} {K : PySem.W.Frag} {mg : Str → Option Value} {base : Heap} {f C : Addr} {fd : FuncData}
theorem ed_sts {σ : L2.St} {H : Hp} {S : Addr} {ds : List PyData} (c : ScC K C) (h : ScAt K C H S ds) (h0 : σ[0]? = some (some (.ref S))) : EvD K (tFld K (tVar 0) "statements") σ H (.tuple ds) := fun H1 e Q q => by
  obtain ⟨dx, v, h1, h2⟩ := h.ext e
  exact ⟨_, h0, S, C, dx, _, _, rfl, h1, c.cl, c.ns, rfl, q v H1 (Ex.refl _) h2⟩
theorem scStr : FnScope ["self"] ["self"] (defScope cStr) := ⟨rfl, rfl, rfl, by decide +kernel, rfl, by decide +kernel, by decide +kernel⟩
theorem ok_str (F : Fun K "__str__" "Script.__str__" cStr f fd) (c : ScC K C) (BL : Df P w K mg base "block_lines" ["statements"] 4 (spBL K)) : FnOk P w K mg base CX0 5 f fd ["self"] (spStr K C) := by
  refine F.ok scStr (fun vs H Q E h => ?_) (fun cdv A outer s0 H vs Q E hr h => ?_)
  · obtain ⟨S, ds, zs, rfl, _⟩ := h
    rfl
  · obtain ⟨S, ds, zs, rfl, sc, ll, ln, kQ⟩ := h
    have hr4 : Room 4 _ := hr
    refine ⟨_, pss_one (ps_ret (pe_bm PySem.F.plainAttrs_str PySem.F.slot_str_join PySem.F.type_str_join mt_join pe_str (pa_cons (pe_df BL hr4 rfl (pa_cons (pe_fld (pv 0) rfl) pa_nil)) pa_nil))), ?_⟩
    have zl := ll.len
    refine ⟨rfl, ed_sts c sc rfl H (Ex.refl _) _ fun v H1 e1 g => ⟨v, ds, zs, rfl, g, ll, by omega, fun p H2 np e2 hp => ?_⟩⟩
    refine ⟨"\n", p, zs, rfl, rfl, .inl (sq_of hp), ?_, kQ H2 (e1.trans e2)⟩
    have nl : ("\n" : Str).length = 1 := by decide +kernel
    rw [nl]
    cases ll with
    | nil =>
      show 0 + 0 * 1 ≤ 16777216
      decide
    | cons l1 h3 r =>
      cases r with
      | nil =>
        rename_i z
        show (z.length + 0) + 1 * 1 ≤ 16777216
        omega
      | cons _ _ _ =>
        simp at ln
theorem scLen : FnScope ["self"] ["self"] (defScope cLen) := ⟨rfl, rfl, rfl, by decide +kernel, rfl, by decide +kernel, by decide +kernel⟩
theorem ok_len (F : Fun K "__len__" "Script.__len__" cLen f fd) (c : ScC K C) (gl : mg "len" = none) : FnOk P w K mg base CX0 1 f fd ["self"] (spLen K C) := by
  refine F.ok scLen (fun vs H Q E h => ?_) (fun cdv A outer s0 H vs Q E hr h => ?_)
  · obtain ⟨S, ds, rfl, _⟩ := h
    rfl
  · obtain ⟨S, ds, rfl, sc, kQ⟩ := h
    refine ⟨_, pss_one (ps_ret (pe_callB call_len_seq (by rfl) gl PySem.boot_len (pa_cons (pe_fld (pv 0) rfl) pa_nil))), ?_⟩
    refine ed_sts c sc rfl H (Ex.refl _) _ fun v H1 e1 g => ?_
    cases g with
    | tup hs ha =>
      refine ⟨_, _, rfl, .inr hs, ?_⟩
      rw [ha.len]
      exact kQ H1 e1
theorem scIn : FnScope ["self", "word"] ["self", "word"] (defScope cIn) := ⟨rfl, rfl, rfl, by decide +kernel, rfl, by decide +kernel, by decide +kernel⟩
theorem ok_in (F : Fun K "__contains__" "Script.__contains__" cIn f fd) (c : ScC K C) (gi : mg "isinstance" = none) (gs : mg "str" = none) (CB : Df P w K mg base "calls_in_block" ["statements"] 3 (spB1 K)) : FnOk P w K mg base CX0 4 f fd ["self", "word"] (spIn K C) := by
  refine F.ok scIn (fun vs H Q E h => ?_) (fun cdv A outer s0 H vs Q E hr h => ?_)
  · obtain ⟨S, ds, wss, x, rfl, _⟩ := h
    rfl
  · obtain ⟨S, ds, wss, x, rfl, sc, cl, ln, nl, kQ⟩ := h
    have hr3 : Room 3 _ := hr
    refine ⟨_, pss_one (ps_ret (pe_and (pe_callB call_isi (by rfl) gi (by decide +kernel) (pa_cons (pv 1) (pa_cons (pe_bltn (v := .ty "str") (by rfl) gs (by decide +kernel) rfl) pa_nil))) (pe_one (pe_cmpR op_in_seq (pv 1) (pe_df CB hr3 rfl (pa_cons (pe_fld (pv 0) rfl) pa_nil)) rfl)))), ?_⟩
    have isS : Ev (tCB (rIsi K) (tCons (tVar 1) (tCons (tC (.ty "str")) tNil))) ([some (.ref S), some (.str x)] : L2.St) H (.bl true) := ed_isi (ed_str (ev_var rfl)) (by rfl)
    have inE : Ev (tOp (rIn K false) (tVar 1) (tCall (spB1 K) [] E0 (tCons (tFld K (tVar 0) "statements") tNil))) ([some (.ref S), some (.str x)] : L2.St) H (.bl (decide (x ∈ wss.flatten))) := fun H1 e1 Q q =>
      ⟨_, rfl, ed_sts c (sc.ext e1) rfl H1 (Ex.refl _) _ fun v H2 e2 g => ⟨v, ds, wss, rfl, g, cl, ln, nl, fun p H3 np e3 hp => ⟨p, _, rfl, .inl (sq_of hp), rfl, flat_strs _, by
        show Q (.bl (inV (.str x) (wss.flatten.map V.str))) H3
        rw [inV_strs]
        exact q H3 (e2.trans e3)⟩⟩⟩
    exact s_ret (v := .bl (true && decide (x ∈ wss.flatten))) (ev_andV isS fun _ => inE) fun H1 e1 => kQ H1 e1
end
structure LvI (K : PySem.W.Frag) (C : Addr) : Prop where
  ha : PySem.W.findIn K (.ref C) "__class__" = some (some (.builtin "object.__class__"))
  hn : PySem.W.specialIn K (.builtin "object.__class__") "__get__" = some (some (.builtin "getset_descriptor.__get__"))
  htk : PySem.W.takesIn K (.builtin "object.__class__") = some true
  hm : PySem.W.mroIn K C (.type "object") = some true
  kC : PySem.W.kitOne K (.ref C) (.ref C) = some true
  kT : ∀ d : PyData, PySem.W.kitOne K (.type (tyD d)) (.ref C) = some false
  nT : ∀ d : PyData, PySem.W.notFirst K C (.type (tyD d)) = true
def spEq (K : PySem.W.Frag) (C : Addr) : Sp := fun vs H Q _ => ∃ (S : Addr) (y : V) (ds : List PyData), vs = [.ref S, y] ∧ ScAt K C H S ds ∧ noDicts ds = true ∧ SeqAt.shaped (.tuple ds) = true ∧
  ((∃ (S2 : Addr) (es : List PyData), y = .ref S2 ∧ ScAt K C H S2 es ∧ noDicts es = true ∧ SeqAt.shaped (.tuple es) = true ∧ ∀ H', Ex H H' → Q (.bl (PyData.eqv (.tuple ds) (.tuple es))) H') ∨ (∃ d, Dd K H y d ∧ ∀ H', Ex H H' → Q (.bl false) H'))
section
variable {P : Program} {w : World} {K : PySem.W.Frag} {mg : Str → Option Value} {base : Heap} {f C : Addr} {fd : FuncData}
theorem ev_isSc {σ : L2.St} {H : Hp} {S : Addr} {ds : List PyData} {ta : TE} (c : ScC K C) (I : LvI K C) (h : ScAt K C H S ds) (ha : Ev ta σ H (.ref S)) : Ev (tCB (rIsi K) (tCons ta (tCons (tC (.ref C)) tNil))) σ H (.bl true) := fun H1 e Q q => ha H1 e _ fun H2 e2 => by
  obtain ⟨dx, v, h1, h2⟩ := h.ext (e.trans e2)
  exact ⟨.ref S, .ref C, .ref C, .ref C, true, rfl, .own C, .base (.ins h1 c.cl I.ha I.hn I.htk I.hm), I.kC, q H2 e2⟩
theorem ev_noSc {σ : L2.St} {H : Hp} {ta : TE} {d : PyData} (I : LvI K C) (h : EvD K ta σ H d) : Ev (tCB (rIsi K) (tCons ta (tCons (tC (.ref C)) tNil))) σ H (.bl false) := fun H1 e Q q => h H1 e _ fun v H2 e2 g =>
  ⟨v, .ref C, .type (tyD d), .ref C, false, rfl, .own C, g.ty, I.kT d, q H2 e2⟩
theorem ed_sts1 {σ : L2.St} {H : Hp} {S : Addr} {ds : List PyData} {i : Nat} (c : ScC K C) (h : ScAt K C H S ds) (h0 : σ[i]? = some (some (.ref S))) : EvD K (tFld K (tVar i) "statements") σ H (.tuple ds) := fun H1 e Q q => by
  obtain ⟨dx, v, h1, h2⟩ := h.ext e
  exact ⟨_, h0, S, C, dx, _, _, rfl, h1, c.cl, c.ns, rfl, q v H1 (Ex.refl _) h2⟩
theorem scEq : FnScope ["self", "other"] ["self", "other"] (defScope cEq) := ⟨rfl, rfl, rfl, by decide +kernel, rfl, by decide +kernel, by decide +kernel⟩
theorem ok_eq (F : Fun K "__eq__" "Script.__eq__" cEq f fd) (c : ScC K C) (I : LvI K C) (gi : mg "isinstance" = none) (gC : mg "Script" = some (.ref C)) : FnOk P w K mg base CX0 1 f fd ["self", "other"] (spEq K C) := by
  refine F.ok scEq (fun vs H Q E h => ?_) (fun cdv A outer s0 H vs Q E hr h => ?_)
  · obtain ⟨S, y, ds, rfl, _⟩ := h
    rfl
  · obtain ⟨S, y, ds, rfl, sc, n1, s1, alt⟩ := h
    refine ⟨_, pss_one (ps_ret (pe_and (pe_callB call_isi (by rfl) gi (by decide +kernel) (pa_cons (pv 1) (pa_cons (pe_glob (v := .ref C) rfl gC rfl) pa_nil))) (pe_one (pe_cmpR (op_eqD hr.units) (pe_fld (pv 0) rfl) (pe_fld (pv 1) rfl) (nomark _))))), ?_⟩
    rcases alt with ⟨S2, es, rfl, sc2, n2, s2, kQ⟩ | ⟨d, g, kQ⟩
    · exact s_ret (v := .bl (true && PyData.eqv (.tuple ds) (.tuple es))) (ev_andV (ev_isSc c I sc2 (ev_var rfl)) fun _ => ed_eqD (ed_sts1 c sc rfl) (ed_sts1 c sc2 rfl) n1 n2 s1 s2) fun H1 e1 => kQ H1 e1
    · exact s_ret (v := .bl (false && false)) (ev_andV (b := false) (ev_noSc I (ed_var rfl g)) fun z => by cases z) fun H1 e1 => kQ H1 e1
end
end K70
set_option maxHeartbeats 1000000
/-! yield from a list -/
namespace L2
open PySem PySem.Spec PyProof.Rows GenW
section
variable {prog : Program} {w : World} {A : Around} {E : Value → Shared → Prop} {s : Shared}
theorem my_lst_item {q t : Addr} {i : Nat} {xs : Array Value} {x : Value} {Q : Option Value → Shared → Prop} (h1 : s.heap.IsListIter q t i) (h2 : s.heap.IsList t xs) (hx : xs[i]? = some x)
    (hQ : ∀ h', h'.IsListIter q t (i + 1) → Heap.SameBut q s.heap h' → Q (some x) { s with heap := h' }) : wpAny (model prog w) A (callSpecial? (.ref q) "__next__") Q E s := by
  obtain ⟨oq, gq, cq, dq⟩ := id h1
  obtain ⟨ol, gl, _, nl, dl⟩ := h2
  refine wpAny_callSpecial?_slot (name := Str.ofString "__next__") h1.typeIs slot_listiter_next (wpAny_call_entry slot_listiter_next h1.typeIs entry_listiter_next ?_ (args_listiter_next _))
  show wpAny _ _ (field (.ref q) 0 >>= _) _ _ s
  refine wpAny_bind (wpAny_field gq dq (x := .ref t) rfl ?_)
  show wpAny _ _ (if (Value.ref t == Value.none) = true then _ else _) _ _ _
  rw [if_neg (c := (Value.ref t == Value.none) = true) (fun z => Bool.false_ne_true z)]
  show wpAny _ _ (field (.ref q) 1 >>= _) _ _ s
  refine wpAny_bind (wpAny_field gq dq (x := .int i 0) rfl (wpAny_bind (wpAny_seqItems gl dl ?_)))
  simp only [hx, Int.toNat_natCast]
  refine wpAny_bind (wpAny_setField gq dq (by simp) (wpAny_pure ⟨x, rfl, hQ _ ⟨_, Heap.get?_update_self _ gq (Obj.isFreed_of_fields (Obj.data_mapFields dq _)), (Obj.cls_mapFields ..).trans cq, ?_⟩ (Heap.SameBut.update ..)⟩))
  rw [Obj.data_mapFields dq]
  simp [rawInt]
theorem my_lst_end {q t : Addr} {i : Nat} {xs : Array Value} {Q : Option Value → Shared → Prop} (hA : A.handled = none) (h1 : s.heap.IsListIter q t i) (h2 : s.heap.IsList t xs) (hx : xs[i]? = none)
    (hE : ∀ e h', StopX e h' → Heap.ExtBut q s.heap h' → E e { s with heap := h' }) : wpAny (model prog w) A (callSpecial? (.ref q) "__next__") Q E s := by
  obtain ⟨oq, gq, cq, dq⟩ := id h1
  obtain ⟨ol, gl, _, nl, dl⟩ := h2
  refine wpAny_callSpecial?_slot (name := Str.ofString "__next__") h1.typeIs slot_listiter_next (wpAny_call_entry slot_listiter_next h1.typeIs entry_listiter_next ?_ (args_listiter_next _))
  show wpAny _ _ (field (.ref q) 0 >>= _) _ _ s
  refine wpAny_bind (wpAny_field gq dq (x := .ref t) rfl ?_)
  show wpAny _ _ (if (Value.ref t == Value.none) = true then _ else _) _ _ _
  rw [if_neg (c := (Value.ref t == Value.none) = true) (fun z => Bool.false_ne_true z)]
  show wpAny _ _ (field (.ref q) 1 >>= _) _ _ s
  refine wpAny_bind (wpAny_field gq dq (x := .int i 0) rfl (wpAny_bind (wpAny_seqItems gl dl ?_)))
  simp only [hx, Int.toNat_natCast]
  refine wpAny_bind (wpAny_rule (wpAny_bind (wpAny_setField gq dq (by simp) ?_)))
  show wpAny _ _ (newExc (.type "StopIteration") [] >>= fun _ => _) _ _ _
  refine wpAny_bind ?_
  simp only [newExc, newTuple]
  refine wpAny_bind (wpAny_newObj_type (wpAny_bind (m := firstArgMember _ _) (wpAny_of_eq (a := Value.none) (by first | rfl | (simp only [firstArgMember]; rfl)) (wpAny_newObj_type ?_ (by size_fits)))) (by size_fits))
  simp only [raiseNew]
  refine wpAny_bind (wpAny_handled ?_)
  rw [show A.in1.handled = none from hA]
  refine wpAny_bind (wpAny_pure (wpAny_throw (hE _ _ ⟨_, _, _, rfl, Heap.get?_push_size _ rfl, rfl, rfl, ?_⟩ (((Heap.SameBut.update ..).extBut.push _).push _))))
  first
    | rfl
    | (rw [Array.getElem?_append_left (by decide)]; rfl)
    | kernel_rfl
end
section
variable {X : Cx} {e : Expr} {te : TE}
def tYfLst (te : TE) : TYf := fun σ H Q => te σ H fun x H1 => ∃ a xs, x = .ref a ∧ H1 a = some (.lst xs) ∧ Q xs H1
theorem my_close : typeLookup (.type "list_iterator") "close" = pure none := by rw [typeLookup_type, builtinLookup_eq_fast]; kernel_rfl
theorem yf_lst (he : PE X e te) : YfE X e (tYfLst te) := by
  refine ⟨fun pins s σ H Q I h => thn (he.run pins s σ H _ I h) fun v s1 ⟨x, H1, I1, r1, a, xs, ex, ha, hq⟩ => ?_⟩
  subst ex
  obtain rfl : v = Value.ref a := r1
  obtain ⟨hlen, its, n, rits, hob⟩ := I1.hok a _ ha
  have ht : s1.heap.IsList a its.toArray := ⟨_, hob, rfl, n, rfl⟩
  have lta : a < s1.heap.objs.size := Heap.lt_size hob
  refine ⟨"list", ht.typeIs, by decide, wpAny_pyIter_list ht ?_⟩
  have kp : ∀ b o, s1.heap.get? b = some o → (s1.heap.push { cls := .type "list_iterator", data := .fields #[.ref a, .int 0 0] }).get? b = some o := fun b o e => Heap.get?_push_of_some _ e
  refine ⟨s1.heap.objs.size, H1, xs, fun j h => h.IsListIter s1.heap.objs.size a j ∧ h.IsList a its.toArray, rfl, I1.kept (t' := s1.toks) kp, .inr I1.sz, Nat.ne_of_gt I1.lt, fun y c hy => ?_, I1.hok.fresh (Nat.le_refl _), fun p hp => Nat.ne_of_lt (Heap.lt_size (I1.pin p hp).1),
    ⟨⟨_, Heap.get?_push_size _ rfl, rfl, rfl⟩, ⟨_, kp _ _ hob, rfl, n, rfl⟩⟩, ⟨⟨"list_iterator", fun j h q => ?_, my_close, by decide⟩, fun j h h' q hk => ?_, fun A' j x s2 Q' E' hA hx q hQ => ?_, fun A' s2 Q' E' hA q hE => ?_⟩, hq⟩
  · obtain ⟨v, o, ho, _⟩ := I1.cell y c hy
    exact Nat.ne_of_lt (Heap.lt_size ho)
  · obtain ⟨⟨o, ho, hc, _⟩, _⟩ := q
    exact ⟨o, ho, hc⟩
  · obtain ⟨⟨o, ho, r⟩, o2, ho2, r2⟩ := q
    exact ⟨⟨o, hk _ o (.inl rfl) ho, r⟩, o2, hk _ o2 (.inr (by rw [ha]; exact fun z => by cases z)) ho2, r2⟩
  · obtain ⟨q1, q2⟩ := q
    obtain ⟨u, hu, ru⟩ := rits.get hx
    exact my_lst_item q1 q2 (x := u) (by simpa using hu) fun h' q1' hs => hQ u h' s2.toks ru ⟨q1', q2.extBut hs.extBut (Nat.ne_of_lt lta)⟩ fun b o hb eb => hs.extBut b o hb eb
  · obtain ⟨q1, q2⟩ := q
    have hnone : its.toArray[xs.length]? = none := by
      have e := rits.length
      have e2 : its[xs.length]? = none := List.getElem?_eq_none_iff.mpr (by omega)
      simpa using e2
    exact my_lst_end hA q1 q2 hnone fun e h' hS hk => hE e h' s2.toks hS fun b o hb eb => hk b o hb eb
end
end L2
set_option maxHeartbeats 4000000
namespace K70
open PySem PySem.Spec PyProof.Rows L2 Evl My LamX
/-! Script() and the calls that a script yields -/
/-- a method that yields -/
structure MG (P : Program) (w : World) (K : PySem.W.Frag) (mg : Str → Option Value) (base : Heap) (C : Addr) (m : Str) (ps : List Str) (k : Nat) (sp : SpG) : Prop where
  ex : ∃ (f : Addr) (fd : FuncData), Meth K C m f ∧ GFn P w K mg base k f fd ps sp ∧ Binds K fd ps []
/-- a class of one maker, with a default -/
structure Mk1D (P : Program) (w : World) (K : PySem.W.Frag) (mg : Str → Option Value) (base : Heap) (C : Addr) (nm : Str) (ps : List Str) (k : Nat) (sp : Sp) : Prop where
  ex : ∃ (f : Addr) (fd : FuncData) (t : Addr), Mk K C f ∧ FnOk P w K mg base CX0 k f fd ps sp ∧ Binds K fd ps [.ref t] ∧ ∀ H, SqT K H t []
  g : mg nm = some (.ref C)
def tMkD (K : PySem.W.Frag) (C : Addr) (sp : Sp) : TE := fun σ H Q => ∀ d : Addr, (∀ H, SqT K H d []) → tMake C sp [.ref d] E0 tNil σ H Q
section
variable {X : Cx} {C : Addr} {m nm : Str} {ps : List Str} {k : Nat} {sp : Sp} {sg : SpG} {o : Expr} {apos pos p : Pos} {ta : TE} {pl : Sem Bool}
theorem pe_mkD (M : Mk1D X.prog X.w X.K X.mg X.base C nm ps k sp) (hr : Room (k + 1) X.A) (hg : Gl X nm) (hdb : (nm == ("__debug__" : Str)) = false := by decide) : PE X (.Call (.Name nm p) [] [] pos) (tMkD X.K C sp) := by
  obtain ⟨f, fd, d, M1, F, b, hd⟩ := M.ex
  exact peImp (pe_make0 M1 F hr hg M.g b (dvs := [.ref d]) (.cons (show RelV (.ref d) (.ref d) from rfl) .nil) pass0 hdb) fun σ H Q h => h d hd
theorem passX0 : Passes (L2.CX X.prog X.w) X E0 := fun pins σ H s e s' I hc => by
  obtain ⟨a, B, H', cls, d, _, _, _, _, _, _, _, hW⟩ := hc
  exact False.elim hW
theorem noStop0 {K : PySem.W.Frag} : NoStop K E0 := fun cls d H h => False.elim h
theorem pe_words (D : MG X.prog X.w X.K X.mg X.base C m ps k sg) (c : Cls X.K C) (hr : Room (k + 3) X.A) (he : PE X o ta) (hg : Gl X "list") (hmg : X.mg "list" = none)
    (hz : eval (.Call (.Attribute o m apos) [] [] pos) X.env = (do
      let ov ← eval o X.env
      standAt apos.atName
      let (f, first) ← holding [ov] (getMethod ov m pl)
      callWith pos f first (backTo pos (starEach [] X.env)) (backToKw pos (keywordEach [] X.env))) := by rfl)
    {p2 pos2 : Pos} : PE X (.Call (.Name "list" p2) [.Call (.Attribute o m apos) [] [] pos] [] pos2) (tListG (tMethG C m sg [] E0 ta tNil)) := by
  obtain ⟨f, fd, hm, F, b⟩ := D.ex
  exact pe_listG (pgen_meth0 he c hm F (hr.mono (by omega)) b .nil hz) passX0 noStop0 hr hg hmg (by decide +kernel)
end
def spGW (K : PySem.W.Frag) (C : Addr) : SpG := fun vs H Q _ => ∃ (S : Addr) (ds : List PyData) (wss : List (List Str)), vs = [.ref S] ∧ ScAt K C H S ds ∧ CL ds wss ∧ ds.length ≤ 900 ∧ wss.flatten.length ≤ 900 ∧ (∀ d ∈ ds, noList d = true) ∧ ∀ H', Ex H H' → Q (wss.flatten.map V.str) H'
section
variable {P : Program} {w : World} {K : PySem.W.Frag} {mg : Str → Option Value} {base : Heap} {f C : Addr} {fd : FuncData}
theorem scGW : GScope ["self"] ["self"] (defScope cWords) := ⟨rfl, rfl, by decide +kernel, by decide +kernel, rfl, by decide +kernel, by decide +kernel⟩
theorem gw_ok (F : Fun K "call_words" "Script.call_words" cWords f fd) (c : ScC K C) (CB : Df P w K mg base "calls_in_block" ["statements"] 3 (spB1 K)) : GFn P w K mg base 4 f fd ["self"] (spGW K C) := by
  obtain ⟨oc, od, kV, doc, pm, an, cdv, ct, osl, rfl, lk, hcd⟩ := F.ex
  refine gfn_of lk hcd scGW (fun vs H Q E h => ?_) fun A outer s H vs Q E pn hr h => ?_
  · obtain ⟨S, ds, wss, rfl, _⟩ := h
    rfl
  · obtain ⟨S, ds, wss, rfl, sc, cl, ln, wl, nl, kQ⟩ := h
    refine ⟨_, gss_cons (gs_yieldFrom (yf_lst (pe_df CB hr rfl (pa_cons (pe_fld (pv 0) rfl) pa_nil))) hr.hd) gss_nil, ?_⟩
    refine ed_sts c sc rfl H (Ex.refl _) _ fun v H1 e1 g => ⟨v, ds, wss, rfl, g, cl, ln, nl, fun q H2 nq e2 hq => ⟨q, _, rfl, hq, ?_, ?_⟩⟩
    · show 0 + (wss.flatten.map V.str).length ≤ 16777216
      rw [List.length_map]
      omega
    · exact kQ H2 (e1.trans e2)
end
end K70
set_option maxHeartbeats 4000000
namespace K70
open PySem PySem.Spec PyProof.Rows L2 Evl My LamX
/-! A text that is put together: how its words are laid out -/
section
variable {t z : Str} {pre xs rest : List Nat}
theorem sgn_app (h : t.cps.toList = pre ++ rest) (k : Nat) : sgn t (pre.length + k) = rest[k]? := by
  unfold sgn
  rw [h, List.getElem?_append_right (by omega), Nat.add_sub_cancel_left]
theorem lenL (h : t.cps.toList = pre ++ rest) : t.length = pre.length + rest.length := by
  have q := congrArg List.length h
  rw [Array.length_toList, List.length_append] at q
  exact q
/-- what follows does not begin with a sign of z -/
def Off (z : Str) (rest : List Nat) : Prop := ∀ c, rest.head? = some c → c ∉ z.cps.toList
theorem run_app (h : t.cps.toList = pre ++ (xs ++ rest)) (hx : ∀ c ∈ xs, c ∈ z.cps.toList) (ho : Off z rest) : RunAt t z pre.length xs.length := by
  refine ⟨fun k hk => ⟨xs[k], ?_, hx _ (List.getElem_mem hk)⟩, fun c hc => ?_⟩
  · rw [sgn_app h, List.getElem?_append_left hk, List.getElem?_eq_getElem hk]
  · rw [sgn_app h, List.getElem?_append_right (Nat.le_refl _), Nat.sub_self] at hc
    exact ho c (by rw [List.head?_eq_getElem?]; exact hc)
theorem sub_app (h : t.cps.toList = pre ++ (xs ++ rest)) : sub t pre.length xs.length = ⟨xs.toArray⟩ := by
  unfold sub
  rw [h, List.drop_left, List.take_left]
theorem cut_app {s : Str} (h : t.cps.toList = pre ++ (s.cps.toList ++ rest)) : cutL t pre.length s = s := by
  have ls : s.cps.toList.length = s.length := Array.length_toList
  have lt := lenL h
  rw [List.length_append, ls] at lt
  have q := sub_app h
  rw [ls] at q
  unfold cutL
  rw [show (pre.length : Int) + (s.length : Int) = ((pre.length + s.length : Nat) : Int) by omega, cut_sub (by omega), q]
end
/-- the signs of one word, and what follows them -/
inductive Tl : List Nat → List Nat → Str → V → Prop
  | num {xs aft : List Nat} {v : Int} : (∀ c ∈ xs, c ∈ DIG.cps.toList) → 1 ≤ xs.length → xs.length ≤ 18 → (xs.length ≤ 1 ∨ ∀ c, xs.head? = some c → c ≠ 48) → PySem.intText? ⟨xs.toArray⟩ = some v → Off DIG aft → Tl xs aft "number" (.int v)
  | wrd {c : Nat} {xs aft : List Nat} : c ∈ LET.cps.toList → (∀ d ∈ c :: xs, d ∈ WSG.cps.toList) → Off WSG aft → Tl (c :: xs) aft (wkind ⟨(c :: xs).toArray⟩) (.str ⟨(c :: xs).toArray⟩)
  | txt {xs aft : List Nat} : (∀ c ∈ xs, c ≠ 34 ∧ 32 ≤ c ∧ c ≤ 126) → Tl (34 :: (xs ++ [34])) aft "text" (.str ⟨xs.toArray⟩)
  | opn {aft : List Nat} : Tl [40] aft "sign" (.str "(")
  | cls {aft : List Nat} : Tl [41] aft "sign" (.str ")")
  | smc {aft : List Nat} : Tl [59] aft "sign" (.str ";")
  | eq {aft : List Nat} : aft.head? ≠ some 61 → Tl [61] aft "sign" (.str "=")
theorem sign_app {t s : Str} {pre aft : List Nat} {c j : Nat} (h : t.cps.toList = pre ++ ([c] ++ aft)) (hs : s.cps.toList = [c]) (hj : SGS[j]? = some s)
    (hb : ∀ (i : Nat) (s' : Str), i < j → SGS[i]? = some s' → (∃ d, s'.cps.toList[0]? = some d ∧ d ≠ c) ∨ (∃ d, s'.cps.toList[1]? = some d ∧ aft[0]? ≠ some d)) : SignAt t pre.length s := by
  refine ⟨j, hj, cut_app (by rw [hs]; exact h), fun i s' hi hs' z => ?_⟩
  rcases hb i s' hi hs' with ⟨d, q, n⟩ | ⟨d, q, n⟩
  · have y := cut_at z q
    rw [sgn_app h] at y
    cases y
    exact n rfl
  · have y := cut_at z q
    rw [sgn_app h] at y
    exact n y
def befA (c j : Nat) : Bool := (SGS.take j).all fun s => decide (∃ d, s.cps.toList.head? = some d ∧ d ≠ c)
theorem bef_of {c j : Nat} (h : (SGS.take j).all (fun s => match s.cps.toList[0]? with | some d => d != c | none => false) = true) {aft : List Nat} :
    ∀ (i : Nat) (s' : Str), i < j → SGS[i]? = some s' → (∃ d, s'.cps.toList[0]? = some d ∧ d ≠ c) ∨ (∃ d, s'.cps.toList[1]? = some d ∧ aft[0]? ≠ some d) := fun i s' hi hs => by
  have m : s' ∈ SGS.take j := List.mem_of_getElem? (i := i) (by rw [List.getElem?_take_of_lt hi]; exact hs)
  have q := List.all_eq_true.mp h s' m
  generalize s'.cps.toList[0]? = o at q
  cases o with
  | none => cases q
  | some d => exact .inl ⟨d, rfl, by simpa using q⟩
theorem Tl.tk {t k : Str} {v : V} {pre tok aft : List Nat} (T : Tl tok aft k v) (h : t.cps.toList = pre ++ (tok ++ aft)) : Tk t pre.length tok.length k v := by
  have lt := lenL h
  rw [List.length_append] at lt
  cases T with
  | num hd l1 l2 hz hv ho =>
    refine .num (by omega) l1 (run_app h hd ho) l2 (hz.imp id fun q c hc => ?_) (by rw [sub_app h]; exact hv)
    have s0 := sgn_app h 0
    rw [Nat.add_zero, List.getElem?_append_left (by omega)] at s0
    rw [s0] at hc
    exact q c (by rw [List.head?_eq_getElem?]; exact hc)
  | wrd hl hw ho =>
    have s0 := sgn_app h 0
    rw [Nat.add_zero] at s0
    have e := sub_app h
    have q := Tk.wrd (by omega) s0 hl (run_app h hw ho)
    rw [e] at q
    exact q
  | txt hx =>
    rename_i xs
    have s0 := sgn_app h 0
    rw [Nat.add_zero] at s0
    have h1 : t.cps.toList = (pre ++ [34]) ++ (xs ++ (34 :: aft)) := by
      rw [h]
      simp
    have lp : (pre ++ [34]).length = pre.length + 1 := by simp
    have e := sub_app h1
    rw [lp] at e
    have q : QuoteAt t (pre.length + 1) xs.length := by
      refine ⟨fun k hk => ⟨xs[k], ?_, hx _ (List.getElem_mem hk)⟩, ?_⟩
      · rw [← lp, sgn_app h1, List.getElem?_append_left hk, List.getElem?_eq_getElem hk]
      · rw [← lp, sgn_app h1, List.getElem?_append_right (Nat.le_refl _), Nat.sub_self]
        rfl
    have r := Tk.txt s0 q
    rw [e] at r
    have ll : (34 :: (xs ++ [34])).length = xs.length + 2 := by simp
    rw [ll]
    exact r
  | opn =>
    exact Tk.sgn (s := "(") (by have s0 := sgn_app h 0; rw [Nat.add_zero] at s0; exact s0) (by decide +kernel) (by decide +kernel) (by decide) (sign_app h (by decide +kernel) (j := 8) (by decide +kernel) (bef_of (by decide +kernel)))
  | cls =>
    exact Tk.sgn (s := ")") (by have s0 := sgn_app h 0; rw [Nat.add_zero] at s0; exact s0) (by decide +kernel) (by decide +kernel) (by decide) (sign_app h (by decide +kernel) (j := 9) (by decide +kernel) (bef_of (by decide +kernel)))
  | smc =>
    exact Tk.sgn (s := ";") (by have s0 := sgn_app h 0; rw [Nat.add_zero] at s0; exact s0) (by decide +kernel) (by decide +kernel) (by decide) (sign_app h (by decide +kernel) (j := 13) (by decide +kernel) (bef_of (by decide +kernel)))
  | eq hn =>
    refine Tk.sgn (s := "=") (by have s0 := sgn_app h 0; rw [Nat.add_zero] at s0; exact s0) (by decide +kernel) (by decide +kernel) (by decide) (sign_app h (by decide +kernel) (j := 3) (by decide +kernel) fun i s' hi hs => ?_)
    match i, hi, hs with
    | 0, _, hs =>
      cases hs
      exact .inr ⟨61, by decide +kernel, by rw [← List.head?_eq_getElem?]; exact hn⟩
    | 1, _, hs =>
      cases hs
      exact .inl ⟨33, by decide +kernel, by decide⟩
    | 2, _, hs =>
      cases hs
      exact .inl ⟨60, by decide +kernel, by decide⟩
/-- words and the blanks behind each -/
inductive Lx : List Nat → List (Str × V × List Nat) → Prop
  | nil : Lx [] []
  | cons {tok bl rest : List Nat} {k : Str} {v : V} {r : List (Str × V × List Nat)} : Tl tok (bl ++ rest) k v → 1 ≤ tok.length → (∀ c ∈ bl, c ∈ BLK.cps.toList) → Off BLK rest → Lx rest r → Lx (tok ++ (bl ++ rest)) ((k, v, tok) :: r)
theorem Lx.lay {t : Str} {L : List Nat} {r : List (Str × V × List Nat)} (X : Lx L r) : ∀ pre, t.cps.toList = pre ++ L → ∃ items : List Tok3, Lay t pre.length items ∧ items.map (fun x => (x.1, x.2.1)) = r.map (fun x => (x.1, x.2.1)) := by
  induction X with
  | nil =>
    intro pre h
    have l := lenL h
    have l2 : t.length = pre.length := l
    refine ⟨[], ?_, rfl⟩
    rw [← l2]
    exact .nil
  | @cons tok bl rest k v r T l1 hb ho X ih =>
    intro pre h
    have h1 : t.cps.toList = (pre ++ tok) ++ (bl ++ rest) := by
      rw [h, List.append_assoc]
    have h2 : t.cps.toList = ((pre ++ tok) ++ bl) ++ rest := by
      rw [h1, List.append_assoc (pre ++ tok)]
    obtain ⟨items, y, e⟩ := ih _ h2
    have lt := lenL h2
    rw [List.length_append, List.length_append] at y lt
    refine ⟨(k, v, pre.length) :: items, .cons (T.tk h) l1 ?_ (by omega) y, by simp [e]⟩
    have q := run_app h1 hb ho
    rw [List.length_append] at q
    exact q
end K70
set_option maxHeartbeats 4000000
namespace K70
open PySem PySem.Spec PyProof.Rows L2 Evl My LamX
/-! The operands of a written statement -/
theorem digs_of {c : Nat} (h : 48 ≤ c ∧ c ≤ 57) : c ∈ DIG.cps.toList := by
  have e : DIG.cps.toList = [48, 49, 50, 51, 52, 53, 54, 55, 56, 57] := by decide +kernel
  rw [e]
  have q : c = 48 ∨ c = 49 ∨ c = 50 ∨ c = 51 ∨ c = 52 ∨ c = 53 ∨ c = 54 ∨ c = 55 ∨ c = 56 ∨ c = 57 := by omega
  simpa using q
theorem numTl {m : Nat} (h : m < 10 ^ 18) {aft : List Nat} (ho : Off DIG aft) : Tl (TL.numL m) aft "number" (.int (m : Int)) := by
  have hd : NumText.AllDigits (TL.numL m) := TL.numL_digits m
  have hne := TL.numL_ne m
  have l18 : (TL.numL m).length ≤ 18 := TL.numL_len (by decide) h
  have l1 : 1 ≤ (TL.numL m).length := by
    cases e : TL.numL m with
    | nil => exact absurd e hne
    | cons c r => exact Nat.le_add_left 1 _
  refine .num (fun c hc => digs_of (hd c hc)) l1 l18 ?_ ?_ ho
  · by_cases hl : (TL.numL m).length ≤ 1
    · exact .inl hl
    · refine .inr fun c hc e => ?_
      subst e
      cases e : TL.numL m with
      | nil => exact hne e
      | cons c r =>
        rw [e] at hc hd hl
        cases hc
        have y := NumText.toDigits_all (48 :: r) hd
        rw [← e, TL.numL_val m] at y
        have z := congrArg List.length y
        have z1 : (Nat.toDigits 10 m).length = (48 :: r).length := by
          rw [← e]
          exact (List.length_map _).symm
        rw [z1, e, List.dropWhile_cons] at z
        have dl : ∀ q : List Nat, (List.dropWhile (fun x => x == 48) q).length ≤ q.length := fun q => (List.dropWhile_sublist _).length_le
        have dr := dl r
        simp only [beq_self_eq_true, if_true] at z
        generalize List.dropWhile (fun x => x == 48) r = q at z dr
        rw [List.length_cons] at z hl
        cases q with
        | nil =>
          have z2 : r.length + 1 = 1 := z
          omega
        | cons a q =>
          have z2 : r.length + 1 = ((a :: q).map Char.ofNat).length := z
          rw [List.length_map] at z2
          omega
  · have q := intText_digits (x := ⟨(TL.numL m).toArray⟩) (by simpa using hd) (by simpa using hne) (by show (TL.numL m).toArray.size ≤ 4300; simp; omega)
    rw [q]
    show some ((NumText.digitsVal (TL.numL m) : Nat) : Int) = _
    rw [TL.numL_val]
end K70
set_option maxHeartbeats 4000000
namespace K70
open PySem PySem.Spec PyProof.Rows L2 Evl My LamX
/-! The statements that are written: words, what is read, what is written again -/
abbrev Wd := Str × V × List Nat
abbrev SMC : Wd := ("sign", .str ";", [59])
abbrev mkS (xs : List Nat) : Str := ⟨xs.toArray⟩
/-- an operand: its signs; kind and value; what is read; how it is written -/
inductive Opd : List Nat → Str → V → PyData → Str → Prop
  | num {m : Nat} : m < 10 ^ 18 → Opd (TL.numL m) "number" (.int (m : Int)) (.tuple [.str "number", .int (m : Int)]) (toString (m : Int))
  | txt {xs : List Nat} : (∀ c ∈ xs, c ≠ 34 ∧ 32 ≤ c ∧ c ≤ 126) → Opd (34 :: (xs ++ [34])) "text" (.str (mkS xs)) (.tuple [.str "text", .str (mkS xs)]) (("\"" ++ mkS xs) ++ "\"")
  | var {c : Nat} {xs : List Nat} : c ∈ LET.cps.toList → (∀ d ∈ c :: xs, d ∈ WSG.cps.toList) → mkS (c :: xs) ∉ KWS → Opd (c :: xs) "word" (.str (mkS (c :: xs))) (.tuple [.str "variable", .str (mkS (c :: xs))]) (mkS (c :: xs))
theorem offD {aft : List Nat} (h : Off WSG aft) : Off DIG aft := fun c hc m => h c hc (by
  have e1 : DIG.cps.toList = [48, 49, 50, 51, 52, 53, 54, 55, 56, 57] := by decide +kernel
  rw [e1] at m
  have q : c = 48 ∨ c = 49 ∨ c = 50 ∨ c = 51 ∨ c = 52 ∨ c = 53 ∨ c = 54 ∨ c = 55 ∨ c = 56 ∨ c = 57 := by simpa using m
  rcases q with h | h | h | h | h | h | h | h | h | h <;> (subst h; decide +kernel))
theorem wkind_word {s : Str} (h : s ∉ KWS) : wkind s = "word" := if_neg h
theorem Opd.tl {xs aft : List Nat} {k z : Str} {v : V} {d : PyData} (h : Opd xs k v d z) (ho : Off WSG aft) : Tl xs aft k v := by
  cases h with
  | num hm => exact numTl hm (offD ho)
  | txt hx => exact .txt hx
  | var hc hw nk =>
    have q := Tl.wrd hc hw ho
    rw [wkind_word nk] at q
    exact q
theorem Opd.x0 {xs : List Nat} {k z : Str} {v : V} {d : PyData} (h : Opd xs k v d z) : X0 d z := by
  cases h with
  | num hm =>
    rename_i m
    refine .num ?_
    show m.log2 < 1920
    have h2 : m < 2 ^ 60 := Nat.lt_of_lt_of_le hm (by decide)
    by_cases hz : m = 0
    · subst hz
      decide
    · have := (Nat.log2_lt hz).mpr h2
      omega
  | txt _ => exact .txt
  | var _ _ _ => exact .var
/-- an expression: its words -/
inductive Ex1 : List Wd → PyData → List Str → Str → Prop
  | op {xs : List Nat} {k z : Str} {v : V} {d : PyData} : Opd xs k v d z → Ex1 [(k, v, xs)] d [] z
  | call {xs : List Nat} {k z s : Str} {v : V} {d : PyData} : s ∈ callW → Opd xs k v d z → Ex1 [("word", .str s, s.cps.toList), ("sign", .str "(", [40]), (k, v, xs), ("sign", .str ")", [41])] (.tuple [.str "call", .str s, .tuple [d]]) [s] (((s ++ "(") ++ z) ++ ")")
theorem Ex1.x1 {r : List Wd} {d : PyData} {ws : List Str} {z : Str} (h : Ex1 r d ws z) : X1 d z := by
  cases h with
  | op h => exact .base h.x0
  | call _ h => exact .call h.x0
theorem Ex1.c1 {r : List Wd} {d : PyData} {ws : List Str} {z : Str} (h : Ex1 r d ws z) : C1 d ws := by
  cases h with
  | op h => exact .base h.x0
  | call _ h => exact .call h.x0
/-- a word of this kind and value stands at p -/
def Has (toks : List Tok3) (p : Nat) (k : Str) (v : V) : Prop := ∃ a, toks[p]? = some ((k, v, a) : Tok3)
theorem Opd.po {xs : List Nat} {k z : Str} {v : V} {d : PyData} {toks : List Tok3} {p : Nat} (h : Opd xs k v d z) (h0 : Has toks p k v) (n : Nxt toks (p + 1)) : PO0 toks p (p + 1) d := by
  obtain ⟨a, e⟩ := h0
  cases h with
  | num _ => exact .num e n
  | txt _ => exact .txt e n
  | var _ _ _ => exact .var e n
theorem Opd.kd {xs : List Nat} {k z : Str} {v : V} {d : PyData} (h : Opd xs k v d z) : k ∈ kinds3 ∧ Sc v := by
  cases h with
  | num _ => exact ⟨by decide +kernel, sc_i⟩
  | txt _ => exact ⟨by decide +kernel, sc_s⟩
  | var _ _ _ => exact ⟨by decide +kernel, sc_s⟩
/-- the words r stand from p on -/
def Row (toks : List Tok3) (p : Nat) (r : List Wd) : Prop := ∀ (i : Nat) (x : Wd), r[i]? = some x → Has toks (p + i) x.1 x.2.1
theorem Row.skip {toks : List Tok3} {p : Nat} {r s : List Wd} (h : Row toks p (r ++ s)) : Row toks (p + r.length) s := fun i x hx => by
  have q := h (r.length + i) x (by rw [List.getElem?_append_right (by omega), Nat.add_sub_cancel_left]; exact hx)
  rw [← Nat.add_assoc] at q
  exact q
theorem Row.last {toks : List Tok3} {p : Nat} {r : List Wd} {x : Wd} (h : Row toks p (r ++ [x])) : Has toks (p + r.length) x.1 x.2.1 := h r.length x (by rw [List.getElem?_append_right (Nat.le_refl _), Nat.sub_self]; rfl)
theorem nxt_of {toks : List Tok3} {p : Nat} {z : Str} (h : Has toks p "sign" (.str z)) (hz : z = ";" ∨ z = ")") : Nxt toks p := by
  obtain ⟨a, e⟩ := h
  exact ⟨z, a, e, hz⟩
theorem Ex1.po {r : List Wd} {d : PyData} {ws : List Str} {z : Str} {toks : List Tok3} {p : Nat} (h : Ex1 r d ws z) (hr : Row toks p (r ++ [SMC])) : PO1 toks p (p + r.length) d := by
  cases h with
  | op h => exact .base (h.po (hr 0 _ rfl) (nxt_of (hr 1 _ rfl) (.inl rfl)))
  | call hs h =>
    obtain ⟨a0, e0⟩ := hr 0 _ rfl
    obtain ⟨a1, e1⟩ := hr 1 _ rfl
    obtain ⟨a3, e3⟩ := hr 3 _ rfl
    have n3 : Nxt toks (p + 3) := nxt_of (hr 3 _ rfl) (.inr rfl)
    have n4 : Nxt toks (p + 4) := nxt_of (hr 4 _ rfl) (.inl rfl)
    exact .call e0 (.mk e1 (h.po (p := p + 2) (hr 2 _ rfl) n3) e3 hs) n4
/-- a name -/
def Nm (s : Str) : Prop := (∃ (c : Nat) (xs : List Nat), s.cps.toList = c :: xs ∧ c ∈ LET.cps.toList ∧ ∀ d ∈ c :: xs, d ∈ WSG.cps.toList) ∧ s ∉ KWS
/-- a statement -/
inductive St1 : List Wd → PyData → List Str → Str → Prop
  | set {s z : Str} {r : List Wd} {d : PyData} {ws : List Str} : Nm s → Ex1 r d ws z → St1 (("word", .str s, s.cps.toList) :: ("sign", .str "=", [61]) :: (r ++ [SMC])) (.tuple [.str "set", .str s, d, .tuple [], .tuple []]) ws (((s ++ " = ") ++ z) ++ ";")
  | tell {z : Str} {r : List Wd} {d : PyData} {ws : List Str} : Ex1 r d ws z → St1 (("sign", .str "tell", [116, 101, 108, 108]) :: (r ++ [SMC])) (.tuple [.str "tell", .none, d, .tuple [], .tuple []]) ws (("tell " ++ z) ++ ";")
  | do_ {z : Str} {r : List Wd} {d : PyData} {ws : List Str} : Ex1 r d ws z → St1 (r ++ [SMC]) (.tuple [.str "do", .none, d, .tuple [], .tuple []]) ws (z ++ ";")
theorem St1.l1 {r : List Wd} {d : PyData} {ws : List Str} {z : Str} (h : St1 r d ws z) : L1 d z := by
  cases h with
  | set _ h => exact .set h.x1
  | tell h => exact .tell h.x1
  | do_ h => exact .do_ h.x1
theorem St1.cl {r : List Wd} {d : PyData} {ws : List Str} {z : Str} (h : St1 r d ws z) : CL [d] [ws] := by
  cases h with
  | set _ h => exact .cons h.c1 .nil
  | tell h => exact .cons h.c1 .nil
  | do_ h => exact .cons h.c1 .nil
theorem St1.ps {r : List Wd} {d : PyData} {ws : List Str} {z : Str} {toks : List Tok3} {p : Nat} (h : St1 r d ws z) (hr : Row toks p r) : PS PO1 toks p (p + r.length) d := by
  cases h with
  | @set s z r d ws _ h =>
    obtain ⟨a0, e0⟩ := hr 0 _ rfl
    obtain ⟨a1, e1⟩ := hr 1 _ rfl
    have hr2 : Row toks (p + 2) (r ++ [SMC]) := Row.skip (r := [_, _]) hr
    obtain ⟨a2, e2⟩ := Row.last hr2
    have q := PS.set e0 e1 (h.po hr2) e2
    have l : p + 2 + r.length + 1 = p + (("word", V.str s, s.cps.toList) :: ("sign", V.str "=", [61]) :: (r ++ [SMC]) : List Wd).length := by
      simp
      omega
    rw [← l]
    exact q
  | @tell z r d ws h =>
    obtain ⟨a0, e0⟩ := hr 0 _ rfl
    have hr2 : Row toks (p + 1) (r ++ [SMC]) := Row.skip (r := [_]) hr
    obtain ⟨a2, e2⟩ := Row.last hr2
    have q := PS.tell e0 (h.po hr2) e2
    have l : p + 1 + r.length + 1 = p + (("sign", V.str "tell", [116, 101, 108, 108]) :: (r ++ [SMC]) : List Wd).length := by
      simp
      omega
    rw [← l]
    exact q
  | @do_ z r d ws h =>
    obtain ⟨a2, e2⟩ := Row.last hr
    have l : p + r.length + 1 = p + (r ++ [SMC] : List Wd).length := by
      simp
      omega
    rw [← l]
    cases h with
    | op ho =>
      obtain ⟨a0, e0⟩ := hr 0 _ rfl
      obtain ⟨a1, e1⟩ := hr 1 _ rfl
      exact .do_ e0 ho.kd.1 ho.kd.2 (fun _ => ⟨";", a1, e1, .inl rfl⟩) ((Ex1.op ho).po hr) e2
    | call hs ho =>
      obtain ⟨a0, e0⟩ := hr 0 _ rfl
      obtain ⟨a1, e1⟩ := hr 1 _ rfl
      exact .do_ e0 (show ("word" : Str) ∈ kinds3 by decide +kernel) sc_s (fun _ => ⟨"(", a1, e1, .inr rfl⟩) ((Ex1.call hs ho).po hr) e2
end K70
set_option maxHeartbeats 4000000
namespace K70
open PySem PySem.Spec PyProof.Rows L2 Evl My LamX
/-! A statement's text, with blanks between its words -/
def Bk (b : List Nat) : Prop := ∀ c ∈ b, c ∈ BLK.cps.toList
def glue (ps : List (List Nat × List Nat)) : List Nat := ps.flatMap fun p => p.1 ++ p.2
theorem off_hd {z : Str} {c : Nat} {r : List Nat} (h : c ∉ z.cps.toList) : Off z (c :: r) := fun d hd => by
  cases hd
  exact h
theorem bk_w {c : Nat} (h : c ∈ BLK.cps.toList) : c ∉ WSG.cps.toList ∧ c ≠ 61 := by
  have e1 : BLK.cps.toList = [32, 10, 9] := by decide +kernel
  rw [e1] at h
  have q : c = 32 ∨ c = 10 ∨ c = 9 := by simpa using h
  rcases q with h | h | h <;> (subst h; exact ⟨by decide +kernel, by decide⟩)
theorem w_bk {c : Nat} (h : c ∈ WSG.cps.toList) : c ∉ BLK.cps.toList := fun m => (bk_w m).1 h
theorem let_w {c : Nat} (h : c ∈ LET.cps.toList) : c ∈ WSG.cps.toList := by
  have e : WSG.cps.toList = LET.cps.toList ++ (DIG.cps.toList ++ [95]) := by decide +kernel
  rw [e]
  exact List.mem_append_left _ h
theorem off_bl {b rest : List Nat} (hb : Bk b) (h : Off WSG rest) : Off WSG (b ++ rest) := by
  cases b with
  | nil => exact h
  | cons c b => exact off_hd (bk_w (hb c List.mem_cons_self)).1
theorem Tl.hd {tok aft y : List Nat} {k : Str} {v : V} (T : Tl tok aft k v) : 1 ≤ tok.length ∧ Off BLK (tok ++ y) := by
  cases T with
  | num hd l1 _ _ _ _ =>
    refine ⟨l1, ?_⟩
    cases tok with
    | nil => exact absurd l1 (by decide)
    | cons c r =>
      have q := hd c List.mem_cons_self
      have e : WSG.cps.toList = LET.cps.toList ++ (DIG.cps.toList ++ [95]) := by decide +kernel
      exact off_hd (w_bk (by rw [e]; exact List.mem_append_right _ (List.mem_append_left _ q)))
  | wrd hl _ _ => exact ⟨by simp, off_hd (w_bk (let_w hl))⟩
  | txt _ => exact ⟨by simp, off_hd (by decide +kernel)⟩
  | opn => exact ⟨by decide, off_hd (by decide +kernel)⟩
  | cls => exact ⟨by decide, off_hd (by decide +kernel)⟩
  | smc => exact ⟨by decide, off_hd (by decide +kernel)⟩
  | eq _ => exact ⟨by decide, off_hd (by decide +kernel)⟩
theorem Lx.off {L : List Nat} {r : List Wd} (X : Lx L r) : Off BLK L := by
  cases X with
  | nil => exact fun c h => by cases h
  | cons T _ _ _ _ => exact T.hd.2
theorem Lx.add {tok b rest : List Nat} {k : Str} {v : V} {r : List Wd} (X : Lx rest r) (hb : Bk b) (T : Tl tok (b ++ rest) k v) : Lx (tok ++ b ++ rest) ((k, v, tok) :: r) := by
  rw [List.append_assoc]
  exact .cons T (T.hd (y := [])).1 hb X.off X
theorem glue_cons {p : List Nat × List Nat} {ps : List (List Nat × List Nat)} {rest : List Nat} : glue (p :: ps) ++ rest = p.1 ++ p.2 ++ (glue ps ++ rest) := by
  simp [glue]
theorem callW_w {s : Str} (h : s ∈ callW) : ∃ (c : Nat) (xs : List Nat), s.cps.toList = c :: xs ∧ c ∈ LET.cps.toList ∧ (∀ d ∈ c :: xs, d ∈ WSG.cps.toList) ∧ wkind s = "word" := by
  have q : s = "find" ∨ s = "written" ∨ s = "size" ∨ s = "not" := by simpa [callW] using h
  rcases q with h | h | h | h <;> subst h
  · exact ⟨102, [105, 110, 100], by decide +kernel, by decide +kernel, by decide +kernel, by decide +kernel⟩
  · exact ⟨119, [114, 105, 116, 116, 101, 110], by decide +kernel, by decide +kernel, by decide +kernel, by decide +kernel⟩
  · exact ⟨115, [105, 122, 101], by decide +kernel, by decide +kernel, by decide +kernel, by decide +kernel⟩
  · exact ⟨110, [111, 116], by decide +kernel, by decide +kernel, by decide +kernel, by decide +kernel⟩
theorem tl_word {s : Str} {c : Nat} {xs aft : List Nat} (e : s.cps.toList = c :: xs) (hc : c ∈ LET.cps.toList) (hw : ∀ d ∈ c :: xs, d ∈ WSG.cps.toList) (ho : Off WSG aft) : Tl s.cps.toList aft (wkind s) (.str s) := by
  have q := Tl.wrd hc hw ho
  have es : (⟨(c :: xs).toArray⟩ : Str) = s := by
    rw [← e]
  rw [es, ← e] at q
  exact q
theorem lx_ex {r r' : List Wd} {d : PyData} {ws : List Str} {z : Str} {rest : List Nat} {ps : List (List Nat × List Nat)} (h : Ex1 r d ws z) (e : ps.map Prod.fst = r.map (fun x => x.2.2)) (hb : ∀ p ∈ ps, Bk p.2) (X : Lx (59 :: rest) r') : Lx (glue ps ++ 59 :: rest) (r ++ r') := by
  have o59 : Off WSG (59 :: rest) := off_hd (by decide +kernel)
  cases h with
  | op h =>
    match ps, e, hb with
    | [(x, b)], e, hb =>
      cases e
      rw [glue_cons]
      exact X.add (hb _ List.mem_cons_self) (h.tl (off_bl (hb _ List.mem_cons_self) o59))
  | @call xq k z s v d hs h =>
    match ps, e, hb with
    | [(x0, b0), (x1, b1), (x2, b2), (x3, b3)], e, hb =>
      cases e
      obtain ⟨c, xs, es, hc, hw, hk⟩ := callW_w hs
      have k0 : Bk b0 := hb _ List.mem_cons_self
      have k1 : Bk b1 := hb _ (List.mem_cons_of_mem _ List.mem_cons_self)
      have k2 : Bk b2 := hb _ (List.mem_cons_of_mem _ (List.mem_cons_of_mem _ List.mem_cons_self))
      have k3 : Bk b3 := hb _ (List.mem_cons_of_mem _ (List.mem_cons_of_mem _ (List.mem_cons_of_mem _ List.mem_cons_self)))
      rw [glue_cons, glue_cons, glue_cons, glue_cons]
      have X3 := X.add k3 Tl.cls
      have X2 := X3.add k2 (h.tl (off_bl k2 (off_hd (by decide +kernel))))
      have X1 := X2.add k1 Tl.opn
      have T0 : ∀ y, Tl s.cps.toList (b0 ++ 40 :: y) "word" (.str s) := fun y => by
        have q := tl_word es hc hw (off_bl k0 (off_hd (r := y) (show (40 : Nat) ∉ WSG.cps.toList by decide +kernel)))
        rw [hk] at q
        exact q
      exact Lx.add X1 k0 (T0 _)
theorem glue_app {ps qs : List (List Nat × List Nat)} : glue (ps ++ qs) = glue ps ++ glue qs := by
  simp [glue]
theorem ex_hd {r : List Wd} {d : PyData} {ws : List Str} {z : Str} (h : Ex1 r d ws z) : ∃ x r1, r = x :: r1 ∧ x.2.2.head? ≠ some 61 ∧ x.2.2 ≠ [] := by
  cases h with
  | op h =>
    refine ⟨_, _, rfl, ?_⟩
    cases h with
    | @num m hm =>
      refine ⟨fun z => ?_, TL.numL_ne m⟩
      have q := TL.numL_digits m 61 (List.mem_of_mem_head? z)
      omega
    | txt _ => exact ⟨by simp, by simp⟩
    | var hc _ _ =>
      refine ⟨fun z => ?_, by simp⟩
      cases z
      exact absurd hc (by decide +kernel)
  | call hs h =>
    obtain ⟨c, xs, es, hc, _⟩ := callW_w hs
    refine ⟨_, _, rfl, fun z => ?_, fun z => ?_⟩
    · have z2 : (c :: xs).head? = some 61 := by rw [← es]; exact z
      cases z2
      exact absurd hc (by decide +kernel)
    · rw [es] at z
      cases z
theorem hd_app {xs ys : List Nat} (h : xs ≠ []) : (xs ++ ys).head? = xs.head? := by
  cases xs with
  | nil => exact absurd rfl h
  | cons c xs => rfl
/-- the words of an expression and the semicolon -/
theorem lx_end {r : List Wd} {d : PyData} {ws : List Str} {z : Str} {ps : List (List Nat × List Nat)} (h : Ex1 r d ws z) (e : ps.map Prod.fst = (r ++ [SMC]).map (fun x => x.2.2)) (hb : ∀ p ∈ ps, Bk p.2) : Lx (glue ps) (r ++ [SMC]) := by
  rw [List.map_append] at e
  obtain ⟨p1, p2, rfl, e1, e2⟩ := List.map_eq_append_iff.mp e
  match p2, e2 with
  | [(x, b)], e2 =>
    cases e2
    rw [glue_app]
    have X : Lx (59 :: b) [SMC] := by
      have q := Lx.add (tok := [59]) (b := b) (rest := []) .nil (hb ([59], b) (List.mem_append_right _ List.mem_cons_self)) Tl.smc
      have e : [59] ++ b ++ [] = 59 :: b := by simp
      rw [e] at q
      exact q
    have g : glue [([59], b)] = 59 :: b := by simp [glue]
    show Lx (glue p1 ++ glue [([59], b)]) _
    rw [g]
    exact lx_ex h e1 (fun p hp => hb p (List.mem_append_left _ hp)) X
end K70
set_option maxHeartbeats 4000000
namespace K70
open PySem PySem.Spec PyProof.Rows L2 Evl My LamX
/-! A statement's text is read -/
def TEL : List Nat := [116, 101, 108, 108]
theorem glue_c {p : List Nat × List Nat} {ps : List (List Nat × List Nat)} : glue (p :: ps) = p.1 ++ p.2 ++ glue ps := by
  simp [glue]
theorem lx_st {r : List Wd} {d : PyData} {ws : List Str} {z : Str} {ps : List (List Nat × List Nat)} (h : St1 r d ws z) (e : ps.map Prod.fst = r.map (fun x => x.2.2)) (hb : ∀ p ∈ ps, Bk p.2) (ht : ∀ p, ps.head? = some p → p.1 = TEL → p.2 ≠ []) : Lx (glue ps) r := by
  cases h with
  | @set s z r d ws hn h =>
    match ps, e, hb, ht with
    | (x0, b0) :: (x1, b1) :: ps, e, hb, ht =>
      obtain ⟨e0, e'⟩ := List.cons.inj e
      obtain ⟨e1, e2⟩ := List.cons.inj e'
      cases e0
      cases e1
      have k0 : Bk b0 := hb _ List.mem_cons_self
      have k1 : Bk b1 := hb _ (List.mem_cons_of_mem _ List.mem_cons_self)
      have X := lx_end h e2 fun p hp => hb p (List.mem_cons_of_mem _ (List.mem_cons_of_mem _ hp))
      obtain ⟨x, r1, er, hx, hne⟩ := ex_hd h
      have n1 : (b1 ++ glue ps).head? ≠ some 61 := by
        cases b1 with
        | cons c b1 =>
          intro z
          cases z
          exact (bk_w (k1 61 List.mem_cons_self)).2 rfl
        | nil =>
          subst er
          match ps, e2 with
          | (y, c) :: ps, e2 =>
            obtain ⟨e3, _⟩ := List.cons.inj e2
            have e4 : y = x.2.2 := e3
            subst e4
            show (glue ((x.2.2, c) :: ps)).head? ≠ some 61
            rw [glue_c, List.append_assoc, hd_app hne]
            exact hx
      obtain ⟨⟨c, xs, es, hc, hw⟩, nk⟩ := hn
      rw [glue_c, glue_c]
      have X1 := X.add k1 (Tl.eq n1)
      have T0 : ∀ y, Tl s.cps.toList (b0 ++ 61 :: y) "word" (.str s) := fun y => by
        have q := tl_word es hc hw (off_bl k0 (off_hd (r := y) (show (61 : Nat) ∉ WSG.cps.toList by decide +kernel)))
        rw [wkind_word nk] at q
        exact q
      exact Lx.add X1 k0 (T0 _)
  | @tell z r d ws h =>
    match ps, e, hb, ht with
    | (x0, b0) :: ps, e, hb, ht =>
      obtain ⟨e0, e'⟩ := List.cons.inj e
      have e00 : x0 = TEL := e0
      subst e00
      have k0 : Bk b0 := hb _ List.mem_cons_self
      have X := lx_end h e' fun p hp => hb p (List.mem_cons_of_mem _ hp)
      have nb := ht _ rfl rfl
      rw [glue_c]
      refine Lx.add X k0 ?_
      have es : ("tell" : Str).cps.toList = 116 :: [101, 108, 108] := by decide +kernel
      have ho : Off WSG (b0 ++ glue ps) := by
        cases b0 with
        | nil => exact absurd rfl nb
        | cons c b0 => exact off_hd (bk_w (k0 c List.mem_cons_self)).1
      have q := tl_word es (by decide +kernel) (by decide +kernel) ho
      have hk : wkind "tell" = "sign" := by decide +kernel
      rw [hk, es] at q
      exact q
  | do_ h => exact lx_end h e hb
/-- behind its words stands the end -/
theorem row_of {t : Str} {items : List Tok3} {r : List Wd} (e : items.map (fun x => (x.1, x.2.1)) = r.map (fun x => (x.1, x.2.1))) : Row (items ++ [endT t]) 0 r := fun i x hx => by
  have q := congrArg (fun l => l[i]?) e
  simp only [List.getElem?_map, hx] at q
  cases h : items[i]? with
  | none =>
    rw [h] at q
    cases q
  | some y =>
    rw [h] at q
    have q2 : (y.1, y.2.1) = (x.1, x.2.1) := Option.some.inj q
    obtain ⟨y1, y2, y3⟩ := y
    obtain ⟨rfl, rfl⟩ := Prod.mk.inj q2
    refine ⟨y3, ?_⟩
    have li := (List.getElem?_eq_some_iff.mp h).1
    rw [Nat.zero_add, List.getElem?_append_left li]
    exact h
theorem st_first {r : List Wd} {d : PyData} {ws : List Str} {z : Str} (h : St1 r d ws z) : ∃ x : Wd, r[0]? = some x ∧ x.1 ≠ ("end" : Str) := by
  cases h with
  | set _ _ => exact ⟨_, rfl, (show ("word" : Str) ≠ "end" by decide +kernel)⟩
  | tell _ => exact ⟨_, rfl, (show ("sign" : Str) ≠ "end" by decide +kernel)⟩
  | do_ h =>
    cases h with
    | op h =>
      refine ⟨_, rfl, ?_⟩
      have q := h.kd.1
      intro z
      have z2 : _ = ("end" : Str) := z
      subst z2
      exact absurd q (by decide +kernel)
    | call _ _ => exact ⟨_, rfl, (show ("word" : Str) ≠ "end" by decide +kernel)⟩
/-- what a statement's text, with any blanks between its words, is read as -/
theorem read_st {t : Str} {r : List Wd} {d : PyData} {ws : List Str} {z : Str} {b : List Nat} {ps : List (List Nat × List Nat)} (h : St1 r d ws z) (e : ps.map Prod.fst = r.map (fun x => x.2.2)) (hb : ∀ p ∈ ps, Bk p.2) (ht : ∀ p, ps.head? = some p → p.1 = TEL → p.2 ≠ []) (b0 : Bk b)
    (hs : t.cps.toList = b ++ glue ps) : RunAt t BLK 0 b.length ∧ ∃ items : List Tok3, Lay t b.length items ∧ PA PO1 (items ++ [endT t]) 0 [d] := by
  have X := lx_st h e hb ht
  have run : RunAt t BLK 0 b.length := run_app (pre := []) hs b0 X.off
  obtain ⟨items, lay, em⟩ := X.lay _ hs
  refine ⟨run, items, lay, ?_⟩
  have rw_ : Row (items ++ [endT t]) 0 r := row_of em
  obtain ⟨x, hx, nx⟩ := st_first h
  obtain ⟨a, ha⟩ := rw_ 0 x hx
  have l : items.length = r.length := by
    have q := congrArg List.length em
    simpa using q
  refine .cons ha nx (h.ps rw_) (.nil (x := endT t) ?_ rfl)
  rw [Nat.zero_add, ← l, List.getElem?_append_right (Nat.le_refl _), Nat.sub_self]
  rfl
/-- and blanks alone as nothing -/
theorem read_none {t : Str} {b : List Nat} (b0 : Bk b) (hs : t.cps.toList = b) : RunAt t BLK 0 b.length ∧ ∃ items : List Tok3, Lay t b.length items ∧ PA PO1 (items ++ [endT t]) 0 [] := by
  have hs2 : t.cps.toList = b ++ [] := by rw [List.append_nil]; exact hs
  obtain ⟨items, lay, em⟩ := Lx.nil.lay _ hs2
  refine ⟨run_app (pre := []) hs2 b0 Lx.nil.off, items, lay, ?_⟩
  have e : items = [] := by simpa using em
  subst e
  exact .nil (x := endT t) rfl rfl
end K70
set_option maxHeartbeats 4000000
namespace K70
open PySem PySem.Spec PyProof.Rows L2 Evl My LamX
/-! The law's draws -/
abbrev sMix : Stmt := top 38
def spMix : Sp := fun vs H Q _ => ∃ n : Int, vs = [.int n] ∧ ∀ (v : Int) (H' : Hp), Ex H H' → 0 ≤ v → v < 2147483629 → Q (.int v) H'
section
variable {σ : L2.St} {H : Hp} {ta tb : TE} {i j : Int}
theorem evMu (ha : Ev ta σ H (.int i)) (hb : Ev tb σ H (.int j)) (h : CMul i j) : Ev (tOp (rI CMul fun i j => .int (i * j)) ta tb) σ H (.int (i * j)) := ev_op ha hb (rv_I h)
theorem evMo (ha : Ev ta σ H (.int i)) (hb : Ev tb σ H (.int j)) (h : 0 < j) : Ev (tOp (rI (fun _ j => 0 < j) fun i j => .int (i % j)) ta tb) σ H (.int (i % j)) := ev_op ha hb (rv_I h)
theorem evDi (ha : Ev ta σ H (.int i)) (hb : Ev tb σ H (.int j)) (h : CDiv i j) : Ev (tOp (rI CDiv fun i j => .int (i / j)) ta tb) σ H (.int (i / j)) := ev_op ha hb (rv_I h)
theorem evPo (ha : Ev ta σ H (.int i)) (hb : Ev tb σ H (.int j)) (h : CPow i j) : Ev (tOp (rI CPow fun i j => .int (i ^ j.toNat)) ta tb) σ H (.int (i ^ j.toNat)) := ev_op ha hb (rv_I h)
end
section
variable {P : Program} {w : World} {K : PySem.W.Frag} {mg : Str → Option Value} {base : Heap} {f : Addr} {fd : FuncData}
theorem scMix : FnScope ["_law_number"] ["_law_number"] (defScope sMix) := ⟨rfl, rfl, rfl, by decide +kernel, rfl, by decide +kernel, by decide +kernel⟩
theorem ok_mix (F : Fun K "_law_mixed" "_law_mixed" sMix f fd) : FnOk P w K mg base CX0 1 f fd ["_law_number"] spMix := by
  refine F.ok scMix (fun vs H Q E h => ?_) (fun cdv A outer s H vs Q E hr h => ?_)
  · obtain ⟨n, rfl, _⟩ := h
    rfl
  · obtain ⟨n, rfl, kQ⟩ := h
    refine ⟨_, pss_cons (ps_set (i := 0) scMix.nd rfl (Or.inl rfl) (pe_op op_mod (pe_op op_add (pe_op op_mul (pe_op op_mod (pv 0) pe_int) pe_int) pe_int) pe_int)) (pss_one (ps_ret (pe_op op_mod (pe_op op_add (pe_op op_mul (pv 0) (pv 0)) (pe_op op_mul pe_int (pv 0))) pe_int))), ?_⟩
    refine q_asg (evMo (evAdd (evMu (evMo (ev_var rfl) ev_c (by decide)) ev_c (Or.inr (by decide))) ev_c) ev_c (by decide)) fun H1 e1 => ?_
    generalize hx : (n % 2147483647 * 48271 + 11) % 2147483647 = x
    have x01 : 0 ≤ x ∧ x < 2147483647 := by
      rw [← hx]
      exact ⟨Int.emod_nonneg _ (by decide), Int.emod_lt_of_pos _ (by decide)⟩
    exact s_ret (evMo (evAdd (evMu (ev_var rfl) (ev_var rfl) (Or.inl ⟨by omega, by omega⟩)) (evMu ev_c (ev_var rfl) (Or.inl (by decide)))) ev_c (by decide)) fun H2 e2 => kQ _ H2 (e1.trans e2) (Int.emod_nonneg _ (by decide)) (Int.emod_lt_of_pos _ (by decide))
end
end K70
set_option maxHeartbeats 4000000
namespace K70
open PySem PySem.Spec PyProof.Rows L2 Evl My LamX
/-! The state of the draws: reads and stores -/
section
variable {K : PySem.W.Frag} {σ : L2.St} {H : Hp} {S : Addr} {xs : List V} {v : V} {tv : TE} {tz : TS} {D : Ends} {j : Nat}
theorem ev_at (h0 : σ[0]? = some (some (.ref S))) (hS : H S = some (.lst xs)) (hj : xs[j]? = some v) : Ev (tOp (rIxL K) (tVar 0) (tC (.int (j : Int)))) σ H v := ev_op (ev_var h0) ev_c (rv_ixL (SqL.of hS) (atI_nat hj))
theorem s_st (hv : Ev tv σ H v) (h0 : σ[0]? = some (some (.ref S))) (hS : H S = some (.lst xs)) (hj : j < xs.length) (q : ∀ H1, Ex H H1 → D.nx σ (upd H1 S (.lst (xs.set j v)))) : tAsg tv (gSub (tVar 0) (tC (.int (j : Int))) rSetL) D σ H :=
  hv H (Ex.refl H) _ fun H1 e1 => ⟨_, h0, S, xs, (j : Int), j, rfl, rfl, e1 _ _ hS, by
    unfold ixN
    rw [if_pos (by omega), if_pos (by omega)]
    rfl, q H1 e1⟩
theorem q_st (hv : Ev tv σ H v) (h0 : σ[0]? = some (some (.ref S))) (hS : H S = some (.lst xs)) (hj : j < xs.length) (q : ∀ H1, Ex H H1 → tz D σ (upd H1 S (.lst (xs.set j v)))) : tSeq (tAsg tv (gSub (tVar 0) (tC (.int (j : Int))) rSetL)) tz D σ H := s_st (D := { D with nx := tz D }) hv h0 hS hj q
theorem s_ife {c : TT} {ta tb : TS} {b : Bool} (h : EvT c σ H b) (h1 : b = true → ∀ H1, Ex H H1 → ta D σ H1) (h2 : b = false → ∀ H1, Ex H H1 → tb D σ H1) : tIfS c ta tb D σ H := h H (Ex.refl H) _ fun H1 e1 => by
  cases b with
  | true => exact h1 rfl H1 e1
  | false => exact h2 rfl H1 e1
end
abbrev sDrw : Stmt := top 39
/-- the state of the draws over these cells -/
def StV (Lc : Addr) (i r k n e : Int) : List V := [.ref Lc, .int i, .int r, .int k, .int n, .int e]
def StA (H : Hp) (S : Addr) (cs : List Int) : Prop := ∃ (Lc : Addr) (i r k n e : Int), S ≠ Lc ∧ H Lc = some (.lst (cs.map V.int)) ∧ 0 ≤ i ∧ cs.length ≤ 100000 ∧ H S = some (.lst (StV Lc i r k n e))
def spDrw : Sp := fun vs H Q _ => ∃ (S : Addr) (m : Int) (cs : List Int), vs = [.ref S, .int m] ∧ 0 < m ∧ m ≤ 10 ^ 18 ∧ StA H S cs ∧ ∀ (v : Int) (H' : Hp), But S H H' → StA H' S cs → 0 ≤ v → v < m → Q (.int v) H'
section
variable {P : Program} {w : World} {K : PySem.W.Frag} {mg : Str → Option Value} {base : Heap} {f : Addr} {fd : FuncData}
def NDr : List Str := ["_law_state_here", "_law_many", "_law_found", "_law_cell"]
theorem scDrw : FnScope NDr ["_law_state_here", "_law_many"] (defScope sDrw) := ⟨rfl, rfl, rfl, by decide +kernel, rfl, by decide +kernel, by decide +kernel⟩
theorem ok_drw (F : Fun K "_law_draw" "_law_draw" sDrw f fd) (gl : mg "len" = none) (MX : Df P w K mg base "_law_mixed" ["_law_number"] 1 spMix) : FnOk P w K mg base CX0 2 f fd ["_law_state_here", "_law_many"] spDrw := by
  refine F.ok scDrw (fun vs H Q E h => ?_) (fun cdv A outer s H vs Q E hr h => ?_)
  · obtain ⟨S, m, cs, rfl, _⟩ := h
    rfl
  · obtain ⟨S, m, cs, rfl, m0, m1, ⟨Lc, i, r, k, n, e, nS, hL, i0, cl, hS⟩, kQ⟩ := h
    have hr1 : Room 1 _ := hr
    refine ⟨_, pss_cons (ps_asg (pe_op op_add (pe_ix ix_list (pv 0) pe_int (fun _ _ => rfl)) pe_int) (pg_sub (pv 0) pe_int set_list))
      (pss_cons (ps_if (pt_cmpR op_gt (pe_ix ix_list (pv 0) pe_int (fun _ _ => rfl)) pe_int (nomark _))
        (pss_cons (ps_set (i := 2) scDrw.nd rfl (Or.inl rfl) (pe_op op_mod (pe_ix ix_list (pv 0) pe_int (fun _ _ => rfl)) (pv 1)))
        (pss_cons (ps_asg (pe_op op_fdivW (pe_ix ix_list (pv 0) pe_int (fun _ _ => rfl)) (pv 1)) (pg_sub (pv 0) pe_int set_list))
        (pss_one (ps_ret (pv 2))))) pss_nil)
      (pss_cut (ps_if (pt_cmpR op_gt (pe_ix ix_list (pv 0) pe_int (fun _ _ => rfl)) pe_int (nomark _))
        (pss_one (ps_asg (pe_op op_sub (pe_ix ix_list (pv 0) pe_int (fun _ _ => rfl)) pe_int) (pg_sub (pv 0) pe_int set_list)))
        (pss_one (ps_if (pt_cmpR op_lt (pe_ix ix_list (pv 0) pe_int (fun _ _ => rfl)) (pe_callB call_len_seq (by rfl) gl PySem.boot_len (pa_cons (pe_ix ix_list (pv 0) pe_int (fun _ _ => rfl)) pa_nil)) (nomark _))
          (pss_cons (ps_set (i := 3) scDrw.nd rfl (Or.inl rfl) (pe_ix ix_list (pe_ix ix_list (pv 0) pe_int (fun _ _ => rfl)) (pe_ix ix_list (pv 0) pe_int (fun _ _ => rfl)) (fun _ _ => rfl)))
          (pss_cons (ps_asg (pe_op op_add (pe_ix ix_list (pv 0) pe_int (fun _ _ => rfl)) pe_int) (pg_sub (pv 0) pe_int set_list))
          (pss_cons (ps_if (pt_cmpR op_ge (pv 3) (pe_op op_pow pe_int pe_int) (nomark _))
            (pss_cons (ps_asg (pe_op op_fdivW (pv 3) (pv 1)) (pg_sub (pv 0) pe_int set_list)) (pss_one (ps_ret (pe_op op_mod (pv 3) (pv 1))))) pss_nil)
          (pss_cons (ps_asg pe_int (pg_sub (pv 0) pe_int set_list))
          (pss_one (ps_asg (pe_op op_mod (pv 3) pe_int) (pg_sub (pv 0) pe_int set_list))))))) pss_nil)))
      (pss_one (ps_ret (pe_op op_mod (pe_df MX hr1 rfl (pa_cons (pe_op op_add (pe_op op_mul (pe_ix ix_list (pv 0) pe_int (fun _ _ => rfl)) pe_int) (pe_op op_mul (pe_ix ix_list (pv 0) pe_int (fun _ _ => rfl)) pe_int)) pa_nil)) (pv 1)))))), ?_⟩
    refine q_st (j := 3) (evAdd (ev_at (j := 3) rfl hS rfl) ev_c) rfl hS (show 3 < 6 by decide) fun H1 e1 => ?_
    have b1 : But S H (upd H1 S (.lst (StV Lc i r (k + 1) n e))) := (But.ofEx e1).upd
    have s1 : (upd H1 S (.lst (StV Lc i r (k + 1) n e))) S = some (.lst (StV Lc i r (k + 1) n e)) := upd_same
    have l1 : (upd H1 S (.lst (StV Lc i r (k + 1) n e))) Lc = some (.lst (cs.map V.int)) := by
      rw [upd_ne (Ne.symm nS)]
      exact e1 _ _ hL
    show tSeq _ _ _ _ (upd H1 S (.lst (StV Lc i r (k + 1) n e)))
    generalize upd H1 S (.lst (StV Lc i r (k + 1) n e)) = G1 at b1 s1 l1 ⊢
    have cdw : ∀ y : Int, CDivW y m := fun y => wide_div (b := 60) m0 (by
      have q : m.natAbs ≤ 10 ^ 18 := by omega
      exact Nat.lt_of_le_of_lt q (by decide)) (by decide) (by decide)
    have evW : ∀ {σ : L2.St} {H : Hp} {ta tb : TE} {y : Int}, Ev ta σ H (.int y) → Ev tb σ H (.int m) → Ev (tOp (rI CDivW fun i j => .int (i / j)) ta tb) σ H (.int (y / m)) := fun ha hb => ev_op ha hb (rv_I (cdw _))
    have md : ∀ y : Int, 0 ≤ y % m ∧ y % m < m := fun y => ⟨Int.emod_nonneg _ (by omega), Int.emod_lt_of_pos _ m0⟩
    have stL : ∀ {G G1 : Hp} {o : HO}, Ex G G1 → G Lc = some (.lst (cs.map V.int)) → (upd G1 S o) Lc = some (.lst (cs.map V.int)) := fun ex l => by
      rw [upd_ne (Ne.symm nS)]
      exact ex _ _ l
    refine q_when (etGt (ev_at (j := 2) rfl s1 rfl) ev_c) (fun hb H2 e2 => ?_) (fun hb H2 e2 => ?_)
    · refine q_asg (evMo (ev_at (j := 2) rfl (e2 _ _ s1) rfl) (ev_var rfl) m0) fun H3 e3 => ?_
      refine q_st (j := 2) (evW (ev_at (j := 2) rfl ((e2.trans e3) _ _ s1) rfl) (ev_var rfl)) rfl ((e2.trans e3) _ _ s1) (show 2 < 6 by decide) fun H4 e4 => ?_
      have e14 := (e2.trans e3).trans e4
      exact s_ret (ev_var rfl) fun H5 e5 => kQ (r % m) H5 (((b1.ex e14).upd).ex e5) ⟨Lc, i, r / m, k + 1, n, e, nS, e5 _ _ (stL e14 l1), i0, cl, e5 _ _ upd_same⟩ (md r).1 (md r).2
    · refine q_cut (M := fun σ' H' => ∃ (x2 x3 : Option V) (i r k n e : Int), σ' = [some (.ref S), some (.int m), x2, x3] ∧ But S H H' ∧ H' Lc = some (.lst (cs.map V.int)) ∧ 0 ≤ i ∧ H' S = some (.lst (StV Lc i r k n e))) ?_ ?_
      · have s2 := e2 _ _ s1
        have l2 := e2 _ _ l1
        have b2 := b1.ex e2
        have t4 : EvT (tTest (tOp (rI0 fun i j => .bl (decide (j < i))) (tOp (rIxL K) (tVar 0) (tC (.int 4))) (tC (.int 0)))) ([some (.ref S), some (.int m), none, none] : L2.St) H2 (decide (0 < n)) := etGt (ev_at (j := 4) rfl s2 rfl) ev_c
        refine s_ife t4 (fun hn H3 e3 => ?_) (fun hn H3 e3 => ?_)
        · have es : Ev (tOp (rI0 fun i j => .int (i - j)) (tOp (rIxL K) (tVar 0) (tC (.int 4))) (tC (.int 1))) ([some (.ref S), some (.int m), none, none] : L2.St) H3 (.int (n - 1)) := evSub (ev_at (j := 4) rfl (e3 _ _ s2) rfl) ev_c
          exact s_st (j := 4) es rfl (e3 _ _ s2) (show 4 < 6 by decide) fun H4 e4 => ⟨_, _, i, r, k + 1, n - 1, e, rfl, (b2.ex (e3.trans e4)).upd, stL (e3.trans e4) l2, i0, upd_same⟩
        · have s3 := e3 _ _ s2
          have l3 := e3 _ _ l2
          have b3 := b2.ex e3
          have t5 : EvT (tTest (tOp (rI0 fun i j => .bl (decide (i < j))) (tOp (rIxL K) (tVar 0) (tC (.int 1))) (tCB (rLenS K) (tCons (tOp (rIxL K) (tVar 0) (tC (.int 0))) tNil)))) ([some (.ref S), some (.int m), none, none] : L2.St) H3 (decide (i < ((cs.map V.int).length : Int))) := etLt (ev_at (j := 1) rfl s3 rfl) (ev_len (ev_at (j := 0) rfl s3 rfl) (SqL.of l3))
          refine s_when t5 (fun hi H4 e4 => ?_) (fun hi H4 e4 => ⟨_, _, i, r, k + 1, n, e, rfl, b3.ex e4, e4 _ _ l3, i0, e4 _ _ s3⟩)
          have hi2 : i < (cs.length : Int) := by
            have q := of_decide_eq_true hi
            rw [List.length_map] at q
            exact q
          have hl : i.toNat < cs.length := by omega
          obtain ⟨y, get⟩ : ∃ y, atI (cs.map V.int) i = some (V.int y) := by
            obtain ⟨j, rfl⟩ := Int.eq_ofNat_of_zero_le i0
            have hj : j < cs.length := by omega
            refine ⟨cs[j], atI_nat ?_⟩
            rw [List.getElem?_map, List.getElem?_eq_getElem hj]
            rfl
          have s4 := e4 _ _ s3
          have l4 := e4 _ _ l3
          have b4 := b3.ex e4
          refine q_asg (ev_op (ev_at (j := 0) rfl s4 rfl) (ev_at (j := 1) rfl s4 rfl) (rv_ixL (SqL.of l4) get)) fun H5 e5 => ?_
          refine q_st (j := 1) (evAdd (ev_at (j := 1) rfl (e5 _ _ s4) rfl) ev_c) rfl (e5 _ _ s4) (show 1 < 6 by decide) fun H6 e6 => ?_
          have b6 : But S H (upd H6 S (.lst (StV Lc (i + 1) r (k + 1) n e))) := (b4.ex (e5.trans e6)).upd
          have s6 : (upd H6 S (.lst (StV Lc (i + 1) r (k + 1) n e))) S = some (.lst (StV Lc (i + 1) r (k + 1) n e)) := upd_same
          have l6 : (upd H6 S (.lst (StV Lc (i + 1) r (k + 1) n e))) Lc = some (.lst (cs.map V.int)) := stL (e5.trans e6) l4
          show tSeq _ _ _ _ (upd H6 S (.lst (StV Lc (i + 1) r (k + 1) n e)))
          generalize upd H6 S (.lst (StV Lc (i + 1) r (k + 1) n e)) = G6 at b6 s6 l6 ⊢
          have ge : EvT (tTest (tOp (rI0 fun i j => .bl (decide (j ≤ i))) (tVar 3) (tOp (rI CPow fun i j => .int (i ^ j.toNat)) (tC (.int 10)) (tC (.int 18))))) ([some (.ref S), some (.int m), none, some (.int y)] : L2.St) G6 (decide ((10 : Int) ^ (18 : Int).toNat ≤ y)) := et_test (ev_op (ev_var rfl) (evPo ev_c ev_c ⟨by decide, by decide, by decide⟩) rv_I0)
          refine q_when ge (fun hy H7 e7 => ?_) (fun hy H7 e7 => ?_)
          · refine q_st (j := 2) (evW (ev_var rfl) (ev_var rfl)) rfl (e7 _ _ s6) (show 2 < 6 by decide) fun H8 e8 => ?_
            exact s_ret (evMo (ev_var rfl) (ev_var rfl) m0) fun H9 e9 => kQ (y % m) H9 (((b6.ex (e7.trans e8)).upd).ex e9) ⟨Lc, i + 1, y / m, k + 1, n, e, nS, e9 _ _ (stL (e7.trans e8) l6), by omega, cl, e9 _ _ upd_same⟩ (md y).1 (md y).2
          · refine q_st (j := 4) ev_c rfl (e7 _ _ s6) (show 4 < 6 by decide) fun H8 e8 => ?_
            exact s_st (j := 5) (evMo (ev_var rfl) ev_c (by decide)) rfl upd_same (show 5 < 6 by decide) fun H9 e9 => ⟨_, _, i + 1, r, k + 1, 3, y % 1000003, rfl, (((b6.ex (e7.trans e8)).upd).ex e9).upd, stL e9 (stL (e7.trans e8) l6), by omega, upd_same⟩
      · rintro σ' H3 ⟨x2, x3, i, r, k, n, e, rfl, b3, l3, i0, s3⟩
        refine (evAdd (evMu (ev_at (j := 5) rfl s3 rfl) ev_c (.inr (by decide))) (evMu (ev_at (j := 3) rfl s3 rfl) ev_c (.inr (by decide)))) H3 (Ex.refl _) _ fun H4 e4 => ?_
        exact ⟨_, rfl, fun v H5 e5 v0 v1 => ⟨_, rfl, v, m, rfl, rfl, m0, kQ _ H5 (b3.ex (e4.trans e5)) ⟨Lc, i, r, k, n, e, nS, (e4.trans e5) _ _ l3, i0, cl, (e4.trans e5) _ _ s3⟩ (md v).1 (md v).2⟩⟩
end
end K70
set_option maxHeartbeats 4000000
namespace K70
open PySem PySem.Spec PyProof.Rows L2 Evl My LamX
/-! The state of the draws made -/
abbrev sSta : Stmt := top 40
def spSta (K : PySem.W.Frag) : Sp := fun vs H Q _ => ∃ (a : Addr) (cs : List Int), vs = [.ref a] ∧ SqL K H a (cs.map V.int) ∧ cs.length ≤ 100000 ∧ ∀ (S : Addr) (H' : Hp), H S = none → Ex H H' → StA H' S cs → Q (.ref S) H'
section
variable {P : Program} {w : World} {K : PySem.W.Frag} {mg : Str → Option Value} {base : Heap} {f : Addr} {fd : FuncData}
theorem scSta : FnScope ["_law_script"] ["_law_script"] (defScope sSta) := ⟨rfl, rfl, rfl, by decide +kernel, rfl, by decide +kernel, by decide +kernel⟩
theorem ok_sta (F : Fun K "_law_state" "_law_state" sSta f fd) (gl : mg "list" = none) : FnOk P w K mg base CX0 1 f fd ["_law_script"] (spSta K) := by
  refine F.ok scSta (fun vs H Q E h => ?_) (fun cdv A outer s H vs Q E hr h => ?_)
  · obtain ⟨a, cs, rfl, _⟩ := h
    rfl
  · obtain ⟨a, cs, rfl, hS, cl, kQ⟩ := h
    refine ⟨_, pss_one (ps_ret (pe_lst (pa_cons (pe_callTy call_list_of (by rfl) gl (by decide +kernel) (pa_cons (pv 0) pa_nil)) (pa_cons pe_int (pa_cons pe_int (pa_cons pe_int (pa_cons pe_int (pa_cons pe_int pa_nil)))))))), ?_⟩
    refine ⟨_, rfl, a, _, rfl, .inl hS, fun p np => ?_⟩
    refine ⟨(show 6 ≤ sizeLine by decide), fun S nS => ?_⟩
    have nSp : S ≠ p := fun z => by
      rw [z, upd_same] at nS
      cases nS
    have n0 : H S = none := by
      rw [upd_ne nSp] at nS
      exact nS
    exact kQ S _ n0 ((Ex.new np).trans (Ex.new nS)) ⟨p, 0, 0, 0, 0, 1, nSp, by rw [upd_ne (Ne.symm nSp)]; exact upd_same, Int.le_refl _, cl, upd_same⟩
end
end K70
set_option maxHeartbeats 4000000
namespace K70
open PySem PySem.Spec PyProof.Rows L2 Evl My LamX
/-! Drawn blanks -/
abbrev sSpc : Stmt := top 44
def spSpc : Sp := fun vs H Q _ => ∃ (S : Addr) (l : Nat) (cs : List Int), vs = [.ref S, .int (l : Int)] ∧ l ≤ 1 ∧ StA H S cs ∧ ∀ (b : List Nat) (H' : Hp), Bk b → b.length ≤ 3 → l ≤ b.length → But S H H' → StA H' S cs → Q (.str (mkS b)) H'
theorem StA.ex {H H' : Hp} {S : Addr} {cs : List Int} (h : StA H S cs) (e : Ex H H') : StA H' S cs := by
  obtain ⟨Lc, i, r, k, n, x, nS, hL, i0, cl, hS⟩ := h
  exact ⟨Lc, i, r, k, n, x, nS, e _ _ hL, i0, cl, e _ _ hS⟩
theorem mkS_app {b : List Nat} {c : Nat} : mkS b ++ (⟨#[c]⟩ : Str) = mkS (b ++ [c]) := by
  show (⟨b.toArray ++ #[c]⟩ : Str) = ⟨(b ++ [c]).toArray⟩
  congr 1
  simp
theorem mkS_len {b : List Nat} : (mkS b).length = b.length := by
  show b.toArray.size = _
  simp
section
variable {P : Program} {w : World} {K : PySem.W.Frag} {mg : Str → Option Value} {base : Heap} {f : Addr} {fd : FuncData}
def NSp : List Str := ["_law_state_here", "_law_least", "_law_text_here", "_law_k"]
theorem scSpc : FnScope NSp ["_law_state_here", "_law_least"] (defScope sSpc) := ⟨rfl, rfl, rfl, by decide +kernel, rfl, by decide +kernel, by decide +kernel⟩
theorem ok_spc (F : Fun K "_law_space" "_law_space" sSpc f fd) (gr : mg "range" = none) (DR : Df P w K mg base "_law_draw" ["_law_state_here", "_law_many"] 2 spDrw) : FnOk P w K mg base CX0 3 f fd ["_law_state_here", "_law_least"] spSpc := by
  refine F.ok scSpc (fun vs H Q E h => ?_) (fun cdv A outer s H vs Q E hr h => ?_)
  · obtain ⟨S, l, cs, rfl, _⟩ := h
    rfl
  · obtain ⟨S, l, cs, rfl, l1, st, kQ⟩ := h
    have hr2 : Room 2 _ := hr
    refine ⟨_, pss_cons (ps_set (i := 2) scSpc.nd rfl (Or.inl rfl) pe_str)
      (pss_cons (ps_for PassesOwn.never rfl (pi_range1 rfl gr (pa_cons (pe_op op_add (pv 1) (pe_df DR hr2 rfl (pa_cons (pv 0) (pa_cons (pe_op op_sub pe_int (pv 1)) pa_nil)))) pa_nil)) (pg_name (i := 3) scSpc.nd rfl (Or.inl rfl))
        (pss_one (ps_set (i := 2) scSpc.nd rfl (Or.inl rfl) (pe_op op_add_str (pv 2) (pe_ix ix_str pe_str (pe_df DR hr2 rfl (pa_cons (pv 0) (pa_cons pe_int pa_nil))) (fun _ _ => rfl))))))
      (pss_one (ps_ret (pv 2)))), ?_⟩
    refine q_asg ev_c fun H1 e1 => ?_
    refine ⟨_, rfl, _, rfl, _, rfl, 4, (l : Int), rfl, rfl, S, 4 - (l : Int), cs, rfl, by omega, by
      have : (4 : Int) ≤ 10 ^ 18 := by decide
      omega, st.ex e1, fun v H2 b2 st2 v0 v1 => ⟨(l : Int), v, rfl, rfl, (l : Int) + v, rfl, by omega, by omega, ?_⟩⟩
    refine for_range (lo := 0) (n := ((l : Int) + v).toNat) (fun i σ' H' => ∃ (b : List Nat) (o : Option V), σ' = [some (.ref S), some (.int (l : Int)), some (.str (mkS b)), o] ∧ Bk b ∧ b.length = i ∧ But S H H' ∧ StA H' S cs) ?_ ?_ ?_
    · exact ⟨[], _, rfl, (fun c hc => nomatch hc), rfl, (But.ofEx e1).trans b2, st2⟩
    · rintro i σ' H3 hi ⟨b, o, rfl, bk, bl, b3, st3⟩
      refine ⟨_, rfl, _, rfl, S, 3, cs, rfl, by decide, by decide, st3, fun u H4 b4 st4 u0 u1 => ?_⟩
      obtain ⟨j, rfl⟩ := Int.eq_ofNat_of_zero_le u0
      have jl : j < 3 := by omega
      have eB : BLK.cps.toList = [32, 10, 9] := by decide +kernel
      obtain ⟨c, hc⟩ : ∃ c, BLK.cps.toList[j]? = some c := by
        rw [eB]
        exact ⟨_, List.getElem?_eq_getElem (show j < 3 from jl)⟩
      refine ⟨BLK, (j : Int), c, rfl, rfl, by decide +kernel, atI_nat hc, mkS b, ⟨#[c]⟩, rfl, rfl, ?_⟩
      refine ⟨?_, b ++ [c], _, by rw [mkS_app]; rfl, ?_, ?_, b3.trans b4, st4⟩
      · rw [mkS_len]
        have q : b.length + 1 ≤ 16777216 := by omega
        exact q
      · intro d hd
        rcases List.mem_append.mp hd with hd | hd
        · exact bk d hd
        · cases List.mem_singleton.mp hd
          exact List.mem_of_getElem? hc
      · rw [List.length_append, bl]
        rfl
    · rintro σ' H3 ⟨b, o, rfl, bk, bl, b3, st3⟩
      exact s_ret (ev_var rfl) fun H4 e4 => kQ b H4 bk (by omega) (by omega) (b3.ex e4) (st3.ex e4)
end
end K70
set_option maxHeartbeats 4000000
namespace K70
open PySem PySem.Spec PyProof.Rows L2 Evl My LamX
/-! A drawn text -/
abbrev sTex : Stmt := top 42
def LSG : Str := " !#$&'()*+,-./0123456789:;<=>?@ABCXYZ[\\]^_`abcxyz{|}~"
def spTex : Sp := fun vs H Q _ => ∃ (S : Addr) (cs : List Int), vs = [.ref S] ∧ StA H S cs ∧ ∀ (b : List Nat) (H' : Hp), (∀ c ∈ b, c ≠ 34 ∧ 32 ≤ c ∧ c ≤ 126) → b.length ≤ 8 → But S H H' → StA H' S cs → Q (.str (mkS b)) H'
theorem lsg_ok : ∀ c ∈ LSG.cps.toList, c ≠ 34 ∧ 32 ≤ c ∧ c ≤ 126 := by decide +kernel
section
variable {P : Program} {w : World} {K : PySem.W.Frag} {mg : Str → Option Value} {base : Heap} {f : Addr} {fd : FuncData}
def NTe : List Str := ["_law_state_here", "_law_signs", "_law_text_here", "_law_k"]
theorem scTex : FnScope NTe ["_law_state_here"] (defScope sTex) := ⟨rfl, rfl, rfl, by decide +kernel, rfl, by decide +kernel, by decide +kernel⟩
theorem ok_tex (F : Fun K "_law_text" "_law_text" sTex f fd) (gr : mg "range" = none) (gl : mg "len" = none) (DR : Df P w K mg base "_law_draw" ["_law_state_here", "_law_many"] 2 spDrw) : FnOk P w K mg base CX0 3 f fd ["_law_state_here"] spTex := by
  refine F.ok scTex (fun vs H Q E h => ?_) (fun cdv A outer s H vs Q E hr h => ?_)
  · obtain ⟨S, cs, rfl, _⟩ := h
    rfl
  · obtain ⟨S, cs, rfl, st, kQ⟩ := h
    have hr2 : Room 2 _ := hr
    refine ⟨_, pss_cons (ps_set (i := 1) scTex.nd rfl (Or.inl rfl) pe_str) (pss_cons (ps_set (i := 2) scTex.nd rfl (Or.inl rfl) pe_str)
      (pss_cons (ps_for PassesOwn.never rfl (pi_range1 rfl gr (pa_cons (pe_df DR hr2 rfl (pa_cons (pv 0) (pa_cons pe_int pa_nil))) pa_nil)) (pg_name (i := 3) scTex.nd rfl (Or.inl rfl))
        (pss_one (ps_set (i := 2) scTex.nd rfl (Or.inl rfl) (pe_op op_add_str (pv 2) (pe_ix ix_str (pv 1) (pe_df DR hr2 rfl (pa_cons (pv 0) (pa_cons (pe_callB call_len_str (by rfl) gl PySem.boot_len (pa_cons (pv 1) pa_nil)) pa_nil))) (fun _ _ => rfl))))))
      (pss_one (ps_ret (pv 2))))), ?_⟩
    refine q_asg ev_c fun H0 e0 => ?_
    refine q_asg ev_c fun H1 e1 => ?_
    have eL : LSG.length = 53 := by decide +kernel
    refine ⟨_, rfl, S, 9, cs, rfl, by decide, by decide, (st.ex e0).ex e1, fun v H2 b2 st2 v0 v1 => ⟨v, rfl, by omega, by omega, ?_⟩⟩
    refine for_range (lo := 0) (n := v.toNat) (fun i σ' H' => ∃ (b : List Nat) (o : Option V), σ' = [some (.ref S), some (.str LSG), some (.str (mkS b)), o] ∧ (∀ c ∈ b, c ≠ 34 ∧ 32 ≤ c ∧ c ≤ 126) ∧ b.length = i ∧ But S H H' ∧ StA H' S cs) ?_ ?_ ?_
    · exact ⟨[], _, rfl, (fun c hc => nomatch hc), rfl, ((But.ofEx (e0.trans e1)).trans b2), st2⟩
    · rintro i σ' H3 hi ⟨b, o, rfl, bk, bl, b3, st3⟩
      refine ⟨_, rfl, _, rfl, _, rfl, _, rfl, LSG, rfl, ?_⟩
      refine ⟨by rw [eL]; decide, S, (LSG.length : Int), cs, rfl, by rw [eL]; decide, by rw [eL]; decide, st3, fun u H4 b4 st4 u0 u1 => ?_⟩
      obtain ⟨j, rfl⟩ := Int.eq_ofNat_of_zero_le u0
      have jl : j < LSG.cps.toList.length := by
        have q : LSG.cps.toList.length = LSG.length := Array.length_toList
        omega
      have hc : LSG.cps.toList[j]? = some LSG.cps.toList[j] := List.getElem?_eq_getElem jl
      generalize LSG.cps.toList[j] = c at hc
      refine ⟨LSG, (j : Int), c, rfl, rfl, by decide +kernel, atI_nat hc, mkS b, ⟨#[c]⟩, rfl, rfl, ?_⟩
      refine ⟨?_, b ++ [c], _, by rw [mkS_app]; rfl, ?_, ?_, b3.trans b4, st4⟩
      · rw [mkS_len]
        have q : b.length + 1 ≤ 16777216 := by omega
        exact q
      · intro d hd
        rcases List.mem_append.mp hd with hd | hd
        · exact bk d hd
        · cases List.mem_singleton.mp hd
          exact lsg_ok _ (List.mem_of_getElem? hc)
      · rw [List.length_append, bl]
        rfl
    · rintro σ' H3 ⟨b, o, rfl, bk, bl, b3, st3⟩
      exact s_ret (ev_var rfl) fun H4 e4 => kQ b H4 bk (by omega) (b3.ex e4) (st3.ex e4)
end
end K70
set_option maxHeartbeats 4000000
namespace K70
open PySem PySem.Spec PyProof.Rows L2 Evl My LamX
/-! A drawn word -/
abbrev sWd : Stmt := top 41
def spWd : Sp := fun vs H Q _ => ∃ (S : Addr) (cs : List Int), vs = [.ref S] ∧ StA H S cs ∧ ∀ (s : Str) (H' : Hp), Nm s → s.length ≤ 7 → But S H H' → StA H' S cs → Q (.str s) H'
/-- the signs of a word -/
def Wsg (b : List Nat) : Prop := ∃ (c : Nat) (xs : List Nat), b = c :: xs ∧ c ∈ LET.cps.toList ∧ ∀ d ∈ b, d ∈ WSG.cps.toList
section
variable {P : Program} {w : World} {K : PySem.W.Frag} {mg : Str → Option Value} {base : Heap} {f : Addr} {fd : FuncData}
def NWd : List Str := ["_law_state_here", "_law_letters", "_law_word_here", "_law_k"]
theorem scWd : FnScope NWd ["_law_state_here"] (defScope sWd) := ⟨rfl, rfl, rfl, by decide +kernel, rfl, by decide +kernel, by decide +kernel⟩
theorem ok_wd (F : Fun K "_law_word" "_law_word" sWd f fd) (gr : mg "range" = none) (DR : Df P w K mg base "_law_draw" ["_law_state_here", "_law_many"] 2 spDrw) : FnOk P w K mg base CX0 3 f fd ["_law_state_here"] spWd := by
  refine F.ok scWd (fun vs H Q E h => ?_) (fun cdv A outer s H vs Q E hr h => ?_)
  · obtain ⟨S, cs, rfl, _⟩ := h
    rfl
  · obtain ⟨S, cs, rfl, st, kQ⟩ := h
    have hr2 : Room 2 _ := hr
    refine ⟨_, pss_cons (ps_set (i := 1) scWd.nd rfl (Or.inl rfl) pe_str) (pss_cons (ps_set (i := 2) scWd.nd rfl (Or.inl rfl) (pe_ix ix_str (pv 1) (pe_df DR hr2 rfl (pa_cons (pv 0) (pa_cons pe_int pa_nil))) (fun _ _ => rfl)))
      (pss_cons (ps_for PassesOwn.never rfl (pi_range1 rfl gr (pa_cons (pe_df DR hr2 rfl (pa_cons (pv 0) (pa_cons pe_int pa_nil))) pa_nil)) (pg_name (i := 3) scWd.nd rfl (Or.inl rfl))
        (pss_one (ps_set (i := 2) scWd.nd rfl (Or.inl rfl) (pe_op op_add_str (pv 2) (pe_ix ix_str (pv 1) (pe_df DR hr2 rfl (pa_cons (pv 0) (pa_cons pe_int pa_nil))) (fun _ _ => rfl))))))
      (pss_cut (ps_if (pt_cmpR op_in_seq (pv 2) (pe_tup (pa_cons pe_str (pa_cons pe_str (pa_cons pe_str (pa_cons pe_str (pa_cons pe_str (pa_cons pe_str (pa_cons pe_str (pa_cons pe_str (pa_cons pe_str pa_nil)))))))))) rfl) (pss_one (ps_set (i := 2) scWd.nd rfl (Or.inl rfl) (pe_op op_add_str (pv 2) pe_str))) pss_nil)
      (pss_one (ps_ret (pv 2)))))), ?_⟩
    refine q_asg ev_c fun H0 e0 => ?_
    have eW : WSG.cps.toList.length = 37 := by decide +kernel
    refine ⟨_, rfl, _, rfl, S, 26, cs, rfl, by decide, by decide, st.ex e0, fun u H1 b1 st1 u0 u1 => ?_⟩
    obtain ⟨j, rfl⟩ := Int.eq_ofNat_of_zero_le u0
    have jl : j < WSG.cps.toList.length := by omega
    have hc : WSG.cps.toList[j]? = some WSG.cps.toList[j] := List.getElem?_eq_getElem jl
    have hcl : WSG.cps.toList[j] ∈ LET.cps.toList := by
      have q : WSG.cps.toList = LET.cps.toList ++ (DIG.cps.toList ++ [95]) := by decide +kernel
      have ll : LET.cps.toList.length = 26 := by decide +kernel
      have z : WSG.cps.toList[j]? = LET.cps.toList[j]? := by
        rw [q, List.getElem?_append_left (by omega)]
      rw [hc] at z
      exact List.mem_of_getElem? z.symm
    generalize WSG.cps.toList[j] = c at hc hcl
    refine ⟨WSG, (j : Int), c, rfl, rfl, by decide +kernel, atI_nat hc, ?_⟩
    refine ⟨_, rfl, S, 6, cs, rfl, by decide, by decide, st1, fun v H2 b2 st2 v0 v1 => ⟨v, rfl, by omega, by omega, ?_⟩⟩
    have b02 : But S H H2 := ((But.ofEx e0).trans b1).trans b2
    refine for_range (lo := 0) (n := v.toNat) (fun i σ' H' => ∃ (b : List Nat) (o : Option V), σ' = [some (.ref S), some (.str WSG), some (.str (mkS b)), o] ∧ Wsg b ∧ b.length = i + 1 ∧ But S H H' ∧ StA H' S cs) ?_ ?_ ?_
    · exact ⟨[c], _, rfl, ⟨c, [], rfl, hcl, fun d hd => by cases List.mem_singleton.mp hd; exact let_w hcl⟩, rfl, b02, st2⟩
    · rintro i σ' H3 hi ⟨b, o, rfl, bk, bl, b3, st3⟩
      refine ⟨_, rfl, _, rfl, _, rfl, S, 37, cs, rfl, by decide, by decide, st3, fun u H4 b4 st4 u0 u1 => ?_⟩
      obtain ⟨j, rfl⟩ := Int.eq_ofNat_of_zero_le u0
      have jl : j < WSG.cps.toList.length := by omega
      have hc : WSG.cps.toList[j]? = some WSG.cps.toList[j] := List.getElem?_eq_getElem jl
      generalize WSG.cps.toList[j] = c at hc
      refine ⟨WSG, (j : Int), c, rfl, rfl, by decide +kernel, atI_nat hc, mkS b, ⟨#[c]⟩, rfl, rfl, ?_⟩
      refine ⟨?_, b ++ [c], _, by rw [mkS_app]; rfl, ?_, ?_, b3.trans b4, st4⟩
      · rw [mkS_len]
        have q : b.length + 1 ≤ 16777216 := by omega
        exact q
      · obtain ⟨c0, xs, rfl, h0, h1⟩ := bk
        refine ⟨c0, xs ++ [c], rfl, h0, fun d hd => ?_⟩
        rcases List.mem_append.mp hd with hd | hd
        · exact h1 d hd
        · cases List.mem_singleton.mp hd
          exact List.mem_of_getElem? hc
      · rw [List.length_append, bl]
        rfl
    · rintro σ' H3 ⟨b, o, rfl, bk, bl, b3, st3⟩
      have eb : (mkS b).cps.toList = b := rfl
      have lb : (mkS b).length = b.length := mkS_len
      refine q_cut (M := fun σ' H' => ∃ (s : Str) (o : Option V), σ' = [some (.ref S), some (.str WSG), some (.str s), o] ∧ Nm s ∧ s.length ≤ 7 ∧ But S H H' ∧ StA H' S cs) ?_ ?_
      · have tt : EvT (tTest (tOp (rIn K false) (tVar 2) (tTup (tCons (tC (.str "if")) (tCons (tC (.str "else")) (tCons (tC (.str "while")) (tCons (tC (.str "for")) (tCons (tC (.str "in")) (tCons (tC (.str "try")) (tCons (tC (.str "tell")) (tCons (tC (.str "and")) (tCons (tC (.str "or")) tNil)))))))))))) ([some (.ref S), some (.str WSG), some (.str (mkS b)), o] : L2.St) H3 (decide (mkS b ∈ KWS)) := et_test fun H4 e4 Q q =>
          ⟨_, rfl, (show 9 ≤ sizeLine by decide), fun p np => ⟨p, KWS.map V.str, rfl, .inr (st_of upd_same), rfl, flat_strs _, by
            show Q (.bl (inV (.str (mkS b)) (KWS.map V.str))) _
            rw [inV_strs]
            exact q _ (Ex.new np)⟩⟩
        obtain ⟨c0, xs, hb0, h0, h1⟩ := bk
        refine s_when tt (fun hk H4 e4 => ?_) (fun hk H4 e4 => ⟨mkS b, _, rfl, ⟨⟨c0, xs, hb0, h0, by rw [← hb0]; exact h1⟩, of_decide_eq_false hk⟩, by omega, b3.ex e4, st3.ex e4⟩)
        refine ⟨_, rfl, mkS b, "x", rfl, rfl, ?_, ⟨mkS b ++ "x", _, rfl, ⟨⟨c0, xs ++ [120], ?_, h0, fun d hd => ?_⟩, fun hm => ?_⟩, ?_, b3.ex e4, st3.ex e4⟩⟩
        · rw [lb]
          have q : b.length + 1 ≤ 16777216 := by omega
          exact q
        · have q : mkS b ++ "x" = mkS (b ++ [120]) := mkS_app
          rw [q, hb0]
          rfl
        · rcases List.mem_cons.mp hd with hd | hd
          · subst hd
            exact let_w h0
          · rcases List.mem_append.mp hd with hd | hd
            · exact h1 d (by rw [hb0]; exact List.mem_cons_of_mem _ hd)
            · cases List.mem_singleton.mp hd
              decide +kernel
        · have q : mkS b ++ "x" = mkS (b ++ [120]) := mkS_app
          have z : ∀ s ∈ KWS, s.cps.toList.getLast? ≠ some 120 := by decide +kernel
          refine z _ hm ?_
          rw [q]
          show (b ++ [120]).getLast? = some 120
          simp
        · have q : mkS b ++ "x" = mkS (b ++ [120]) := mkS_app
          rw [q, mkS_len, List.length_append]
          show b.length + 1 ≤ 7
          omega
      · rintro σ' H4 ⟨s, o, rfl, hn, hl, b4, st4⟩
        exact s_ret (ev_var rfl) fun H5 e5 => kQ s H5 hn hl (b4.ex e5) (st4.ex e5)
end
end K70
set_option maxHeartbeats 4000000
namespace K70
open PySem PySem.Spec PyProof.Rows L2 Evl My LamX
/-! A drawn operand -/
abbrev sOpe : Stmt := top 43
def spOpe : Sp := fun vs H Q _ => ∃ (S : Addr) (cs : List Int), vs = [.ref S] ∧ StA H S cs ∧ ∀ (xs : List Nat) (k z : Str) (v : V) (d : PyData) (H' : Hp), Opd xs k v d z → z.cps.toList = xs → xs.length ≤ 18 → But S H H' → StA H' S cs → Q (.str z) H'
theorem num_z (m : Nat) : (toString (m : Int) : Str).cps.toList = TL.numL m := TL.tl_num m
section
variable {P : Program} {w : World} {K : PySem.W.Frag} {mg : Str → Option Value} {base : Heap} {f : Addr} {fd : FuncData}
def NOp : List Str := ["_law_state_here", "_law_kind"]
theorem scOpe : FnScope NOp ["_law_state_here"] (defScope sOpe) := ⟨rfl, rfl, rfl, by decide +kernel, rfl, by decide +kernel, by decide +kernel⟩
theorem ok_ope (F : Fun K "_law_operand" "_law_operand" sOpe f fd) (gs : mg "str" = none) (DR : Df P w K mg base "_law_draw" ["_law_state_here", "_law_many"] 2 spDrw) (TX : Df P w K mg base "_law_text" ["_law_state_here"] 3 spTex) (WD : Df P w K mg base "_law_word" ["_law_state_here"] 3 spWd) : FnOk P w K mg base CX0 4 f fd ["_law_state_here"] spOpe := by
  refine F.ok scOpe (fun vs H Q E h => ?_) (fun cdv A outer s H vs Q E hr h => ?_)
  · obtain ⟨S, cs, rfl, _⟩ := h
    rfl
  · obtain ⟨S, cs, rfl, st, kQ⟩ := h
    have hr3 : Room 3 _ := hr
    have hr2 : Room 2 _ := hr3.mono (by decide)
    refine ⟨_, pss_cons (ps_set (i := 1) scOpe.nd rfl (Or.inl rfl) (pe_df DR hr2 rfl (pa_cons (pv 0) (pa_cons pe_int pa_nil))))
      (pss_cons (ps_if (pt_cmpR op_eq (pv 1) pe_int (nomark _)) (pss_one (ps_ret (pe_callTy call_strB (by rfl) gs (by decide +kernel) (pa_cons (pe_df DR hr2 rfl (pa_cons (pv 0) (pa_cons (pe_op op_pow pe_int pe_int) pa_nil))) pa_nil)))) pss_nil)
      (pss_cons (ps_if (pt_cmpR op_eq (pv 1) pe_int (nomark _)) (pss_one (ps_ret (pe_callTy call_strB (by rfl) gs (by decide +kernel) (pa_cons (pe_df DR hr2 rfl (pa_cons (pv 0) (pa_cons pe_int pa_nil))) pa_nil)))) pss_nil)
      (pss_cons (ps_if (pt_cmpR op_eq (pv 1) pe_int (nomark _)) (pss_one (ps_ret (pe_op op_add_str (pe_op op_add_str pe_str (pe_df TX hr3 rfl (pa_cons (pv 0) pa_nil))) pe_str))) pss_nil)
      (pss_one (ps_ret (pe_df WD hr3 rfl (pa_cons (pv 0) pa_nil))))))), ?_⟩
    refine ⟨_, rfl, S, 4, cs, rfl, by decide, by decide, st, fun u H1 b1 st1 u0 u1 => ?_⟩
    have done_num : ∀ (x : Int) (H' : Hp), 0 ≤ x → x < 10 ^ 18 → But S H H' → StA H' S cs → Q (.str (toString x)) H' := fun x H' x0 x1 b st' => by
      obtain ⟨m, rfl⟩ := Int.eq_ofNat_of_zero_le x0
      have hm : m < 10 ^ 18 := by omega
      exact kQ _ _ _ _ _ H' (.num hm) (num_z m) (TL.numL_len (by decide) hm) b st'
    have small : ∀ x : Int, 0 ≤ x → x < 10 ^ 18 → x.natAbs.log2 < 1920 := fun x x0 x1 => by
      by_cases hz : x.natAbs = 0
      · rw [hz]
        decide
      · have h2 : x.natAbs < 2 ^ 60 := by
          have h3 : x.natAbs < 10 ^ 18 := by omega
          exact Nat.lt_of_lt_of_le h3 (by decide)
        have := (Nat.log2_lt hz).mpr h2
        omega
    have tst : ∀ (j : Int) (G : Hp), EvT (tTest (tOp rEq (tVar 1) (tC (.int j)))) ([some (.ref S), some (.int u)] : L2.St) G (decide (V.int u = .int j)) := fun j G => et_test (ev_op (ev_var rfl) ev_c (rv_eq rfl))
    refine q_when (tst 0 _) (fun _ H2 e2 => ?_) (fun _ H2 e2 => ?_)
    · refine ⟨_, rfl, (evPo ev_c ev_c ⟨by decide, by decide, by decide⟩) H2 (Ex.refl _) _ fun H3 e3 => ?_⟩
      refine ⟨S, 10 ^ 18, cs, rfl, by decide, Int.le_refl _, st1.ex (e2.trans e3), fun x H4 b4 st4 x0 x1 => .inr ⟨x, rfl, small x x0 x1, ?_⟩⟩
      exact done_num x H4 x0 x1 ((b1.ex (e2.trans e3)).trans b4) st4
    · refine q_when (tst 1 _) (fun _ H3 e3 => ?_) (fun _ H3 e3 => ?_)
      · refine ⟨_, rfl, S, 12, cs, rfl, by decide, by decide, st1.ex (e2.trans e3), fun x H4 b4 st4 x0 x1 => ?_⟩
        have x2 : x < 10 ^ 18 := Int.lt_trans x1 (by decide)
        exact .inr ⟨x, rfl, small x x0 x2, done_num x H4 x0 x2 ((b1.ex (e2.trans e3)).trans b4) st4⟩
      · have e13 := e2.trans e3
        refine q_when (tst 2 _) (fun _ H4 e4 => ?_) (fun _ H4 e4 => ?_)
        · refine ⟨_, rfl, S, cs, rfl, st1.ex (e13.trans e4), fun b H5 bk bl b5 st5 => ⟨"\"", mkS b, rfl, rfl, ?_, "\"" ++ mkS b, "\"", rfl, rfl, ?_, ?_⟩⟩
          · show 1 + (mkS b).length ≤ 16777216
            rw [mkS_len]
            omega
          · have q : ("\"" ++ mkS b) = mkS (34 :: b) := by
              show (⟨#[34] ++ b.toArray⟩ : Str) = ⟨(34 :: b).toArray⟩
              congr 1
              simp
            show ("\"" ++ mkS b).length + 1 ≤ 16777216
            rw [q, mkS_len, List.length_cons]
            omega
          · refine kQ _ _ _ _ _ H5 (.txt bk) ?_ (by simp; omega) ((b1.ex (e13.trans e4)).trans b5) st5
            show (#[34] ++ b.toArray ++ #[34]).toList = 34 :: (b ++ [34])
            simp
        · refine ⟨_, rfl, S, cs, rfl, st1.ex (e13.trans e4), fun s H5 hn hl b5 st5 => ?_⟩
          obtain ⟨⟨c, xs, es, hc, hw⟩, nk⟩ := hn
          have q : mkS (c :: xs) = s := by
            rw [← es]
          have q2 := Opd.var hc hw (by rw [q]; exact nk)
          rw [q] at q2
          have ll : (c :: xs).length = s.length := by
            rw [← es]
            exact Array.length_toList
          exact kQ _ _ _ _ _ H5 q2 es (by omega) ((b1.ex (e13.trans e4)).trans b5) st5
end
end K70
set_option maxHeartbeats 4000000
namespace K70
open PySem PySem.Spec PyProof.Rows L2 Evl My LamX
/-! The line and the loose text: their signs -/
theorem tl_app (s t : Str) : (s ++ t).cps.toList = s.cps.toList ++ t.cps.toList := by
  show (s.cps ++ t.cps).toList = _
  simp
theorem str_ext {s t : Str} (h : s.cps.toList = t.cps.toList) : s = t := by
  cases s
  cases t
  congr 1
  exact Array.toList_inj.mp h
theorem app_as (a b c : Str) : (a ++ b) ++ c = a ++ (b ++ c) := str_ext (by simp only [tl_app, List.append_assoc])
theorem nil_app (s : Str) : ("" : Str) ++ s = s := str_ext (by
  rw [tl_app]
  have e : ("" : Str).cps.toList = [] := by decide +kernel
  rw [e]
  rfl)
theorem len_tl (s : Str) : s.cps.toList.length = s.length := Array.length_toList
theorem app_len (a b : Str) : (a ++ b).length = a.length + b.length := len_app a b
theorem Opd.sg {xs : List Nat} {k z : Str} {v : V} {d : PyData} (h : Opd xs k v d z) : z.cps.toList = xs := by
  cases h with
  | num hm => exact num_z _
  | @txt xs _ =>
    show (#[34] ++ xs.toArray ++ #[34]).toList = _
    simp
  | var _ _ _ => rfl
/-- the tokens of an expression -/
inductive ExT : List Str → List Wd → PyData → List Str → Str → Prop
  | op {xs : List Nat} {k z : Str} {v : V} {d : PyData} : Opd xs k v d z → ExT [z] [(k, v, xs)] d [] z
  | call {xs : List Nat} {k z s : Str} {v : V} {d : PyData} : s ∈ callW → Opd xs k v d z → ExT [s, "(", z, ")"] [("word", .str s, s.cps.toList), ("sign", .str "(", [40]), (k, v, xs), ("sign", .str ")", [41])] (.tuple [.str "call", .str s, .tuple [d]]) [s] (((s ++ "(") ++ z) ++ ")")
abbrev tlS (t : Str) : List Nat := t.cps.toList
abbrev wS (x : Wd) : List Nat := x.2.2
section
variable {toks : List Str} {r : List Wd} {d : PyData} {ws : List Str} {z : Str}
theorem ExT.ex (h : ExT toks r d ws z) : Ex1 r d ws z := by
  cases h with
  | op h => exact .op h
  | call hs h => exact .call hs h
theorem e40 : ("(" : Str).cps.toList = [40] := by decide +kernel
theorem e41 : (")" : Str).cps.toList = [41] := by decide +kernel
theorem e59 : (";" : Str).cps.toList = [59] := by decide +kernel
theorem e61 : ("=" : Str).cps.toList = [61] := by decide +kernel
theorem eTel : ("tell" : Str).cps.toList = TEL := by decide +kernel
theorem ExT.fs (h : ExT toks r d ws z) : toks.map tlS = r.map wS := by
  cases h with
  | op h =>
    show [_] = [_]
    rw [show tlS z = _ from h.sg]
  | call hs h =>
    show [_, _, _, _] = [_, _, _, _]
    rw [show tlS _ = _ from h.sg, show tlS "(" = _ from e40, show tlS ")" = _ from e41]
theorem ExT.jn (h : ExT toks r d ws z) : Txt.join "" toks = z := by
  have e0 : TL.tl ("" : Str) = [] := by decide +kernel
  refine str_ext ?_
  rw [TL.join_eq]
  show TL.tl (Str.join "" toks) = _
  rw [TL.tl_join, e0]
  cases h with
  | op h => simp [TL.joinL, TL.tl]
  | call hs h => simp [TL.joinL, TL.tl, tl_app]
abbrev pl (x : Wd) : List Nat × List Nat := (x.2.2, [])
theorem pl_fst (r : List Wd) : (r.map pl).map Prod.fst = r.map wS := by
  rw [List.map_map]
  rfl
theorem pl_bk (r : List Wd) : ∀ p ∈ r.map pl, Bk p.2 := fun p hp => by
  obtain ⟨x, _, rfl⟩ := List.mem_map.mp hp
  exact fun c hc => nomatch hc
theorem Ex1.gl (h : Ex1 r d ws z) : glue (r.map pl) = z.cps.toList := by
  cases h with
  | op h => simp [glue, h.sg]
  | call hs h => simp [glue, tl_app, h.sg, e40, e41]
theorem ex_end (h : Ex1 r d ws z) : glue ((r ++ [SMC]).map pl) = z.cps.toList ++ [59] := by
  rw [List.map_append, glue_app, h.gl]
  simp [glue]
def HTel (ps : List (List Nat × List Nat)) : Prop := ∀ p, ps.head? = some p → p.1 = TEL → p.2 ≠ []
def NoTel (r : List Wd) : Prop := ∀ x, r.head? = some x → x.2.2 ≠ TEL
theorem tel_kw : mkS TEL ∈ KWS := by decide +kernel
theorem Ex1.notel (h : Ex1 r d ws z) : NoTel r := fun x hx e => by
  cases h with
  | op h =>
    cases hx
    cases h with
    | num hm =>
      have q := TL.numL_digits _ 116 (by rw [show TL.numL _ = TEL from e]; decide)
      omega
    | txt hx => cases e
    | @var c xs hc hw nk =>
      have e2 : c :: xs = TEL := e
      rw [e2] at nk
      exact nk tel_kw
  | @call xq k z s v d hs h =>
    cases hx
    have q : s = "find" ∨ s = "written" ∨ s = "size" ∨ s = "not" := by simpa [callW] using hs
    have e2 : s.cps.toList = TEL := e
    rcases q with g | g | g | g <;> (subst g; exact absurd e2 (by decide +kernel))
theorem nt_app {s : List Wd} (h : NoTel r) (n : r ≠ []) : NoTel (r ++ s) := fun x hx => by
  cases r with
  | nil => exact absurd rfl n
  | cons y r => exact h x hx
theorem Ex1.ne (h : Ex1 r d ws z) : r ≠ [] := by
  obtain ⟨x, r1, rfl, _⟩ := ex_hd h
  exact List.cons_ne_nil _ _
theorem ht_of {ps : List (List Nat × List Nat)} (e : ps.map Prod.fst = r.map wS) (h : NoTel r) : HTel ps := fun p hp e1 => by
  cases ps with
  | nil => cases hp
  | cons q ps =>
    cases hp
    cases r with
    | nil => cases e
    | cons x r =>
      obtain ⟨e2, _⟩ := List.cons.inj e
      have e3 : p.1 = x.2.2 := e2
      exact absurd (e3.symm.trans e1) (h x rfl)
theorem sp_bk : Bk [32] := by
  have e1 : BLK.cps.toList = [32, 10, 9] := by decide +kernel
  intro c hc
  rw [e1]
  cases List.mem_singleton.mp hc
  decide
theorem bk_nil : Bk [] := fun c hc => nomatch hc
theorem Nm.notel {s : Str} (h : Nm s) : s.cps.toList ≠ TEL := fun e => by
  have q : s = mkS TEL := str_ext e
  exact h.2 (by rw [q]; exact tel_kw)
theorem bk_app {ps qs : List (List Nat × List Nat)} (h : ∀ p ∈ ps, Bk p.2) (h2 : ∀ p ∈ qs, Bk p.2) : ∀ p ∈ ps ++ qs, Bk p.2 := fun p hp => (List.mem_append.mp hp).elim (h p) (h2 p)
/-- the line is glue of its words with blanks -/
theorem St1.line (h : St1 r d ws z) : ∃ ps : List (List Nat × List Nat), ps.map Prod.fst = r.map wS ∧ (∀ p ∈ ps, Bk p.2) ∧ HTel ps ∧ z.cps.toList = glue ps := by
  cases h with
  | @set s z r d ws hn h =>
    refine ⟨(s.cps.toList, [32]) :: ([61], [32]) :: (r ++ [SMC]).map pl, ?_, ?_, ?_, ?_⟩
    · show _ :: _ :: _ = _ :: _ :: _
      rw [pl_fst]
    · intro p hp
      rcases List.mem_cons.mp hp with rfl | hp
      · exact sp_bk
      · rcases List.mem_cons.mp hp with rfl | hp
        · exact sp_bk
        · exact pl_bk _ p hp
    · intro p hp e1
      cases hp
      exact absurd e1 hn.notel
    · rw [glue_c, glue_c, ex_end h, tl_app, tl_app, tl_app, e59, show (" = " : Str).cps.toList = [32, 61, 32] from by decide +kernel]
      simp
  | @tell z r d ws h =>
    refine ⟨(TEL, [32]) :: (r ++ [SMC]).map pl, ?_, ?_, ?_, ?_⟩
    · show _ :: _ = _ :: _
      rw [pl_fst]
      rfl
    · intro p hp
      rcases List.mem_cons.mp hp with rfl | hp
      · exact sp_bk
      · exact pl_bk _ p hp
    · intro p hp _
      cases hp
      exact List.cons_ne_nil _ _
    · rw [glue_c, ex_end h, tl_app, tl_app, e59, show ("tell " : Str).cps.toList = TEL ++ [32] from by decide +kernel]
      simp
  | do_ h =>
    refine ⟨_, pl_fst _, pl_bk _, ht_of (pl_fst _) (nt_app h.notel h.ne), ?_⟩
    rw [ex_end h, tl_app, e59]
end
/-- the loose text after i tokens -/
def Lp (toks : List Str) (r : List Wd) (i : Nat) (loose : Str) : Prop := ∃ (b : List Nat) (hps tps : List (List Nat × List Nat)), Bk b ∧ loose.cps.toList = b ++ glue (hps ++ tps) ∧ (∀ p ∈ hps ++ tps, Bk p.2) ∧
  tps.map Prod.fst = ((toks ++ [(";" : Str)]).take i).map tlS ∧ hps.map Prod.fst ++ (toks ++ [(";" : Str)]).map tlS = r.map wS ∧ HTel hps ∧ (hps = [] → NoTel r) ∧ loose.length ≤ 40 + 21 * i
section
variable {toks : List Str} {r : List Wd} {d : PyData} {ws : List Str} {z loose t : Str} {i : Nat} {b bl b1 b2 : List Nat}
theorem Lp.step (h : Lp toks r i loose) (ht : (toks ++ [(";" : Str)])[i]? = some t) (tl : t.length ≤ 18) (hb : Bk bl) (l3 : bl.length ≤ 3) : Lp toks r (i + 1) ((loose ++ t) ++ mkS bl) := by
  obtain ⟨b, hps, tps, b0, e, hk, e1, e2, e3, e4, e5⟩ := h
  refine ⟨b, hps, tps ++ [(tlS t, bl)], b0, ?_, ?_, ?_, e2, e3, e4, ?_⟩
  · rw [tl_app, tl_app, e, ← List.append_assoc, glue_app (ps := hps ++ tps)]
    simp [glue]
  · rw [← List.append_assoc]
    refine bk_app hk fun p hp => ?_
    cases List.mem_singleton.mp hp
    exact hb
  · rw [List.map_append, e1]
    have q : (toks ++ [(";" : Str)]).take (i + 1) = (toks ++ [(";" : Str)]).take i ++ [t] := by
      rw [List.take_succ, ht]
      rfl
    rw [q, List.map_append]
    rfl
  · rw [app_len, app_len, mkS_len (b := bl)]
    omega
theorem Lp.fin (h : Lp toks r (toks.length + 1) loose) : ∃ (b : List Nat) (ps : List (List Nat × List Nat)), Bk b ∧ loose.cps.toList = b ++ glue ps ∧ (∀ p ∈ ps, Bk p.2) ∧ ps.map Prod.fst = r.map wS ∧ HTel ps ∧ loose.length ≤ 61 + 21 * toks.length := by
  obtain ⟨b, hps, tps, b0, e, hk, e1, e2, e3, e4, e5⟩ := h
  have ef : (hps ++ tps).map Prod.fst = r.map wS := by
    rw [List.map_append, e1, List.take_of_length_le (by simp), e2]
  refine ⟨b, hps ++ tps, b0, e, hk, ef, ?_, by omega⟩
  cases hps with
  | nil => exact ht_of ef (e4 rfl)
  | cons p hps => exact e3
theorem fs_end (h : ExT toks r d ws z) : (toks ++ [(";" : Str)]).map tlS = (r ++ [SMC]).map wS := by
  rw [List.map_append, List.map_append, h.fs]
  show _ ++ [_] = _ ++ [_]
  rw [show tlS ";" = _ from e59]
theorem lp_do (h : ExT toks r d ws z) (b0 : Bk b) (bl : b.length ≤ 3) : Lp toks (r ++ [SMC]) 0 (mkS b) := by
  refine ⟨b, [], [], b0, ?_, (fun p hp => nomatch hp), rfl, fs_end h, fun p hp => (by cases hp), fun _ => nt_app h.ex.notel h.ex.ne, ?_⟩
  · show b = b ++ []
    simp
  · rw [mkS_len (b := b)]
    omega
theorem lp_tell (h : ExT toks r d ws z) (b0 : Bk b) (bl : b.length ≤ 3) (k1 : Bk b1) (l1 : b1.length ≤ 3) (n1 : 1 ≤ b1.length) : Lp toks (("sign", .str "tell", [116, 101, 108, 108]) :: (r ++ [SMC])) 0 ((mkS b ++ "tell") ++ mkS b1) := by
  refine ⟨b, [(TEL, b1)], [], b0, ?_, fun p hp => ?_, rfl, ?_, fun p hp e => ?_, fun z => (by cases z), ?_⟩
  · rw [tl_app, tl_app, eTel]
    simp [glue]
  · cases List.mem_singleton.mp hp
    exact k1
  · show TEL :: _ = _ :: _
    rw [fs_end h]
    rfl
  · cases hp
    intro z
    have z2 : b1 = [] := z
    rw [z2] at n1
    exact absurd n1 (by decide)
  · rw [app_len, app_len, mkS_len (b := b), mkS_len (b := b1), show ("tell" : Str).length = 4 from by decide +kernel]
    omega
theorem lp_set {s : Str} (hn : Nm s) (sl : s.length ≤ 7) (h : ExT toks r d ws z) (b0 : Bk b) (bl : b.length ≤ 3) (k1 : Bk b1) (l1 : b1.length ≤ 3) (k2 : Bk b2) (l2 : b2.length ≤ 3) :
    Lp toks (("word", .str s, s.cps.toList) :: ("sign", .str "=", [61]) :: (r ++ [SMC])) 0 ((((mkS b ++ s) ++ mkS b1) ++ "=") ++ mkS b2) := by
  refine ⟨b, [(s.cps.toList, b1), ([61], b2)], [], b0, ?_, fun p hp => ?_, rfl, ?_, fun p hp e => ?_, fun z => (by cases z), ?_⟩
  · rw [tl_app, tl_app, tl_app, tl_app, e61]
    simp [glue]
  · rcases List.mem_cons.mp hp with rfl | hp
    · exact k1
    · cases List.mem_singleton.mp hp
      exact k2
  · show _ :: _ :: _ = _ :: _ :: _
    rw [fs_end h]
    rfl
  · cases hp
    exact absurd e hn.notel
  · rw [app_len, app_len, app_len, app_len, mkS_len (b := b), mkS_len (b := b1), mkS_len (b := b2), show ("=" : Str).length = 1 from by decide +kernel]
    omega
end
section
variable {toks : List Str} {r : List Wd} {d : PyData} {ws : List Str} {z loose : Str} {i : Nat}
theorem ExT.len (h : ExT toks r d ws z) (ht : ∀ t ∈ toks, t.length ≤ 18) : z.length ≤ 72 := by
  cases h with
  | op h =>
    have q := ht z List.mem_cons_self
    omega
  | @call xq k z s v d hs h =>
    have q1 := ht s List.mem_cons_self
    have q2 := ht "(" (List.mem_cons_of_mem _ List.mem_cons_self)
    have q3 := ht z (List.mem_cons_of_mem _ (List.mem_cons_of_mem _ List.mem_cons_self))
    have q4 := ht ")" (List.mem_cons_of_mem _ (List.mem_cons_of_mem _ (List.mem_cons_of_mem _ List.mem_cons_self)))
    simp only [app_len]
    omega
theorem sum_le : ∀ {l : List Str}, (∀ t ∈ l, t.length ≤ 18) → (l.map (·.length)).sum ≤ 18 * l.length
  | [], _ => by simp
  | t :: l, h => by
    have ih := sum_le fun u hu => h u (List.mem_cons_of_mem _ hu)
    have q := h t List.mem_cons_self
    simp only [List.map_cons, List.sum_cons, List.length_cons]
    omega
theorem ExT.sum (l4 : toks.length ≤ 4) (ht : ∀ t ∈ toks, t.length ≤ 18) : (toks.map (·.length)).sum + toks.length * ("" : Str).length ≤ 16777216 := by
  have q := sum_le ht
  have e0 : ("" : Str).length = 0 := by decide +kernel
  rw [e0]
  omega
theorem Lp.len (h : Lp toks r i loose) : loose.length ≤ 40 + 21 * i := by
  obtain ⟨b, hps, tps, _, _, _, _, _, _, _, e⟩ := h
  exact e
theorem jn1 {s z : Str} : Txt.join s [z] = z := by
  refine str_ext ?_
  rw [TL.join_eq]
  show TL.tl (Str.join s [z]) = _
  rw [TL.tl_join]
  simp [TL.joinL, TL.tl]
theorem jn0 {s : Str} : Txt.join s [] = "" := by
  rw [TL.join_eq]
  rfl
end
end K70
set_option maxHeartbeats 4000000
namespace K70
open PySem PySem.Spec PyProof.Rows L2 Evl My LamX
/-! What is read is plain data -/
theorem sok {s : Str} (h : ∀ c ∈ s.cps.toList, c < 0x110000) : PyData.strOk s = true := by
  show s.cps.all (fun c => decide (c < 0x110000)) = true
  rw [← Array.all_toList]
  exact List.all_eq_true.mpr fun c hc => decide_eq_true (h c hc)
theorem wsg_lt {c : Nat} (h : c ∈ WSG.cps.toList) : c < 0x110000 := by
  have q : ∀ c ∈ WSG.cps.toList, c < 0x110000 := by decide +kernel
  exact q c h
/-- plain data: no list, no dict, shallow -/
structure Good (d : PyData) (n : Nat) : Prop where
  nl : noList d = true
  nd : noDict d = true
  cl : d.canLay0 = true
  dp : d.depth ≤ n
theorem good_str {s : Str} (h : PyData.strOk s = true) : Good (.str s) 0 := ⟨rfl, rfl, h, Nat.le_refl 0⟩
theorem good_int {i : Int} (h : (PyData.int i).canLay0 = true) : Good (.int i) 0 := ⟨rfl, rfl, h, Nat.le_refl 0⟩
theorem good_non : Good .none 0 := ⟨rfl, rfl, rfl, Nat.le_refl 0⟩
theorem Good.up {d : PyData} {n m : Nat} (h : Good d n) (l : n ≤ m) : Good d m := ⟨h.nl, h.nd, h.cl, Nat.le_trans h.dp l⟩
inductive Goods : List PyData → Nat → Prop
  | nil {n : Nat} : Goods [] n
  | cons {d : PyData} {ds : List PyData} {n : Nat} : Good d n → Goods ds n → Goods (d :: ds) n
theorem dep_cons {d : PyData} {ds : List PyData} : PyData.depthAll (d :: ds) = max d.depth (PyData.depthAll ds) := by
  first | rfl | simp [PyData.depthAll]
theorem good_tup {ds : List PyData} {n : Nat} (h : Goods ds n) : Good (.tuple ds) (n + 1) := by
  have z : noLists ds = true ∧ noDicts ds = true ∧ PyData.canLayAll0 ds = true ∧ PyData.depthAll ds ≤ n := by
    induction h with
    | nil => exact ⟨rfl, rfl, rfl, Nat.zero_le _⟩
    | cons g _ ih =>
      obtain ⟨i1, i2, i3, i4⟩ := ih
      refine ⟨?_, ?_, ?_, ?_⟩
      · show (noList _ && noLists _) = true
        rw [g.nl, i1]
        rfl
      · show (noDict _ && noDicts _) = true
        rw [g.nd, i2]
        rfl
      · show (PyData.canLay0 _ && PyData.canLayAll0 _) = true
        rw [g.cl, i3]
        rfl
      · rw [dep_cons]
        exact Nat.max_le.mpr ⟨g.dp, i4⟩
  exact ⟨z.1, z.2.1, z.2.2.1, Nat.succ_le_succ z.2.2.2⟩
theorem lit_ok {s : Str} (h : PyData.strOk s = true := by decide +kernel) : Good (.str s) 0 := good_str h
section
variable {xs : List Nat} {k z : Str} {v : V} {d : PyData} {r : List Wd} {ws : List Str}
theorem Opd.good (h : Opd xs k v d z) : Good d 1 := by
  cases h with
  | num hm => exact good_tup (.cons lit_ok (.cons (good_int rfl) .nil))
  | txt hx => exact good_tup (.cons lit_ok (.cons (good_str (sok fun c hc => by
      have q := hx c hc
      omega)) .nil))
  | var hc hw _ => exact good_tup (.cons lit_ok (.cons (good_str (sok fun c hc => wsg_lt (hw c hc))) .nil))
theorem callW_ok {s : Str} (h : s ∈ callW) : PyData.strOk s = true := by
  obtain ⟨c, xs, e, _, hw, _⟩ := callW_w h
  exact sok fun c hc => wsg_lt (hw c (by rw [← e]; exact hc))
theorem Ex1.good (h : Ex1 r d ws z) : Good d 3 := by
  cases h with
  | op h => exact h.good.up (by decide)
  | call hs h => exact good_tup (n := 2) (.cons ((lit_ok).up (by decide)) (.cons ((good_str (callW_ok hs)).up (by decide)) (.cons (good_tup (.cons h.good .nil)) .nil)))
theorem nm_sok {s : Str} (h : Nm s) : PyData.strOk s = true := by
  obtain ⟨⟨c, xs, e, _, hw⟩, _⟩ := h
  exact sok fun c hc => wsg_lt (hw c (by rw [← e]; exact hc))
theorem St1.good (h : St1 r d ws z) : Good d 4 := by
  have nt : Good (.tuple []) 3 := (good_tup (n := 0) .nil).up (by decide)
  cases h with
  | set hn h => exact good_tup (n := 3) (.cons ((lit_ok).up (by decide)) (.cons ((good_str (nm_sok hn)).up (by decide)) (.cons h.good (.cons nt (.cons nt .nil)))))
  | tell h => exact good_tup (n := 3) (.cons ((lit_ok).up (by decide)) (.cons (good_non.up (by decide)) (.cons h.good (.cons nt (.cons nt .nil)))))
  | do_ h => exact good_tup (n := 3) (.cons ((lit_ok).up (by decide)) (.cons (good_non.up (by decide)) (.cons h.good (.cons nt (.cons nt .nil)))))
end
theorem Good.sh {d : PyData} {n : Nat} (h : Good d n) (l : n ≤ 60) : noDicts [d] = true ∧ SeqAt.shaped (.tuple [d]) = true := by
  have g := good_tup (.cons h .nil)
  refine ⟨g.nd, ?_⟩
  unfold SeqAt.shaped
  rw [g.cl, decide_eq_true (Nat.le_trans g.dp (by omega))]
  rfl
theorem Good.nls {d : PyData} {n : Nat} (h : Good d n) : noLists [d] = true := (good_tup (.cons h .nil)).nl
theorem Good.eqv {d : PyData} {n : Nat} (h : Good d n) : PyData.eqv (.tuple [d]) (.tuple [d]) = true := SeqAt.eqv_refl _ (good_tup (.cons h .nil)).cl
theorem eqv_no {d : PyData} : PyData.eqv (.tuple [d]) (.tuple []) = false := rfl
theorem nil_sh : noDicts [] = true ∧ SeqAt.shaped (.tuple []) = true := ⟨rfl, by decide +kernel⟩
theorem StA.lst {H : Hp} {S : Addr} {cs : List Int} (h : StA H S cs) : ∃ xs, H S = some (.lst xs) := by
  obtain ⟨Lc, i, r, k, n, e, _, _, _, _, hS⟩ := h
  exact ⟨_, hS⟩
/-- what is told stands when the state of the draws is changed -/
theorem dds_but {K : PySem.W.Frag} {H H' : Hp} {S : Addr} {xs ys : List V} (h1 : H S = some (.lst xs)) (h2 : H' S = some (.lst ys)) (b : But S H H') {v : V} {d : PyData} (nl : noList d = true) (g : Dd K H v d) : Dd K H' v d := by
  have e : Ex (upd H S (.lst ys)) H' := fun a o h => by
    by_cases z : a = S
    · subst z
      rw [upd_same] at h
      cases h
      exact h2
    · rw [upd_ne z] at h
      exact b a o z h
  exact Dd.ext e _ _ (Dd.upd h1 d v nl g)
theorem ScAt.but {K : PySem.W.Frag} {C A S : Addr} {H H' : Hp} {ds : List PyData} {cs : List Int} (h : ScAt K C H A ds) (nl : noLists ds = true) (s1 : StA H S cs) (s2 : StA H' S cs) (b : But S H H') : ScAt K C H' A ds := by
  obtain ⟨dx, v, h1, h2⟩ := h
  obtain ⟨xs, x1⟩ := s1.lst
  obtain ⟨ys, x2⟩ := s2.lst
  have n : A ≠ S := fun z => by
    rw [z, x1] at h1
    cases h1
  exact ⟨dx, v, b A _ n h1, dds_but x1 x2 b nl h2⟩
/-- the calls of the law's script -/
def WsOk (cw : Str) (ws : List Str) : Prop := (cw = "" ∧ ws = []) ∨ (cw ∈ callW ∧ ws = [cw])
theorem cw_ne {s : Str} (h : s ∈ callW) : s ≠ "" := fun z => by
  rw [z] at h
  exact absurd h (by decide +kernel)
theorem WsOk.eq {cw : Str} {ws : List Str} (h : WsOk cw ws) : noDict (.list (ws.map PyData.str)) = true ∧ SeqAt.shaped (.list (ws.map PyData.str)) = true ∧ PyData.eqv (.list (ws.map PyData.str)) (.list (ws.map PyData.str)) = true := by
  rcases h with ⟨_, rfl⟩ | ⟨h, rfl⟩
  · exact ⟨rfl, by decide +kernel, rfl⟩
  · have k := callW_ok h
    have c : (PyData.list ([cw].map PyData.str)).canLay0 = true := by
      show (PyData.strOk cw && true) = true
      rw [k]
      rfl
    refine ⟨rfl, ?_, SeqAt.eqv_refl _ c⟩
    unfold SeqAt.shaped
    rw [c]
    rfl
theorem WsOk.del {cw : Str} {ws : List Str} (h : WsOk cw ws) : decide (("delete" : Str) ∈ ws) = false := decide_eq_false fun z => by
  rcases h with ⟨_, rfl⟩ | ⟨h, rfl⟩
  · cases z
  · have e := List.mem_singleton.mp z
    rw [← e] at h
    exact absurd h (by decide +kernel)
theorem WsOk.mem {cw : Str} {ws : List Str} (h : WsOk cw ws) : decide (cw ∈ ws) = !decide (V.str cw = .str "") := by
  rcases h with ⟨rfl, rfl⟩ | ⟨h, rfl⟩
  · rfl
  · rw [decide_eq_true (List.mem_singleton.mpr rfl), decide_eq_false fun z => cw_ne h (V.str.inj z)]
    rfl
end K70
set_option maxHeartbeats 4000000
namespace K70
open PySem PySem.Spec PyProof.Rows L2 Evl My LamX
/-! The class Script, as the law asks it -/
structure ScM (P : Program) (w : World) (K : PySem.W.Frag) (mg : Str → Option Value) (base : Heap) (C : Addr) : Prop where
  c : ScC K C
  i : LvI K C
  nC : PySem.W.notFirst K C (.ref C) = true
  g : mg "Script" = some (.ref C)
  eq : ∃ (f : Addr) (fd : FuncData), PySem.W.findIn K (.ref C) "__eq__" = some (some (.ref f)) ∧ PySem.W.isFn K (.ref f) = true ∧ FnOk P w K mg base CX0 1 f fd ["self", "other"] (spEq K C) ∧ Binds K fd ["self", "other"] []
  len : ∃ (f : Addr) (fd : FuncData), PySem.W.findIn K (.ref C) "__len__" = some (some (.ref f)) ∧ PySem.W.typeIn K (.ref f) = some (.type "function") ∧ FnOk P w K mg base CX0 1 f fd ["self"] (spLen K C) ∧ Binds K fd ["self"] []
  str : ∃ (f : Addr) (fd : FuncData), PySem.W.findIn K (.ref C) "__str__" = some (some (.ref f)) ∧ PySem.W.isFn K (.ref f) = true ∧ FnOk P w K mg base CX0 5 f fd ["self"] (spStr K C) ∧ Binds K fd ["self"] []
  in_ : ∃ (f : Addr) (fd : FuncData), PySem.W.findIn K (.ref C) "__contains__" = some (some (.ref f)) ∧ PySem.W.typeIn K (.ref f) = some (.type "function") ∧ FnOk P w K mg base CX0 4 f fd ["self", "word"] (spIn K C) ∧ Binds K fd ["self", "word"] []
  rd : ∃ (mc : Value) (p f : Addr) (fd : FuncData), ClX.CRead K C mc ∧ SMet K C mc "read" p f ∧ FnOk P w K mg base CX0 21 f fd ["text"] (spRead K C) ∧ Binds K fd ["text"] []
section
variable {X : Cx} {C : Addr}
theorem op_eqS (M : ScM X.prog X.w X.K X.mg X.base C) (hr : Room 1 X.A) : OpR X (compareOp .Eq) (rOwnI X.K C (spEq X.K C) E0) := by
  obtain ⟨f, fd, h1, h2, F, b⟩ := M.eq
  exact op_ownI (fun _ _ => rfl) h1 h2 F b hr passN
theorem call_lenS (M : ScM X.prog X.w X.K X.mg X.base C) (hr : Room 2 X.A) : CallR X (.builtin "len") (rLenI C (spLen X.K C) E0) := by
  obtain ⟨f, fd, h1, h2, F, b⟩ := M.len
  exact call_lenI h1 h2 F b hr (fun _ _ _ _ _ _ _ h => h.elim)
theorem call_strS (M : ScM X.prog X.w X.K X.mg X.base C) (hr : Room 7 X.A) : CallR X (.type "str") (rStrI C (spStr X.K C) E0) := by
  obtain ⟨f, fd, h1, h2, F, b⟩ := M.str
  exact call_strI h1 h2 F b hr passN
theorem op_inS (M : ScM X.prog X.w X.K X.mg X.base C) (hr : Room 4 X.A) : OpR X (compareOp .In) (rInI C (spIn X.K C) E0 false) := by
  obtain ⟨f, fd, h1, h2, F, b⟩ := M.in_
  exact op_inI h1 h2 F b hr passN
theorem op_niSc (M : ScM X.prog X.w X.K X.mg X.base C) (hr : Room 4 X.A) : OpR X (compareOp .NotIn) (rInI C (spIn X.K C) E0 true) := by
  obtain ⟨f, fd, h1, h2, F, b⟩ := M.in_
  exact op_notInI h1 h2 F b hr passN
theorem pe_readS {e : Expr} {t : TA} {p apos pos : Pos} {pl : Sem Bool} (M : ScM X.prog X.w X.K X.mg X.base C) (hr : Room 21 X.A) (hg : Gl X "Script") (ha : L2.PA X [e] t)
    (hst : starEach [e] X.env = (false, eval e X.env) :: starEach [] X.env := by rfl) (hpl : (backTo pos (starEach [] X.env)).any (·.1) = false := by rfl)
    (ht : eval (.Call (.Attribute (.Name "Script" p) "read" apos) [e] [] pos) X.env = (do
      let ov ← eval (.Name "Script" p) X.env
      standAt apos.atName
      let (f, first) ← holding [ov] (getMethod ov "read" pl)
      callWith pos f first (backTo pos (starEach [e] X.env)) (backToKw pos (keywordEach [] X.env))) := by rfl) :
    PE X (.Call (.Attribute (.Name "Script" p) "read" apos) [e] [] pos) (tSMeth C (spRead X.K C) E0 (tC (.ref C)) t) := by
  obtain ⟨mc, q, f, fd, r, c, F, b⟩ := M.rd
  exact pe_smeth (pe_glob (v := .ref C) hg M.g rfl) r c F b hr passN ha hst hpl ht
end
def Sq (ds : List PyData) : Prop := noDicts ds = true ∧ SeqAt.shaped (.tuple ds) = true
section
variable {P : Program} {w : World} {mg : Str → Option Value} {base : Heap} {K : PySem.W.Frag} {C S S1 S2 : Addr} {σ : L2.St} {H : Hp} {ds es : List PyData} {d : PyData} {ta tb : TE} {s : Str} {wss : List (List Str)} {zs : List Str}
theorem ev_eqSS (M : ScM P w K mg base C) (ha : Ev ta σ H (.ref S1)) (hb : Ev tb σ H (.ref S2)) (s1 : ScAt K C H S1 ds) (s2 : ScAt K C H S2 es) (g1 : Sq ds) (g2 : Sq es) : Ev (tOp (rOwnI K C (spEq K C) E0) ta tb) σ H (.bl (PyData.eqv (.tuple ds) (.tuple es))) := fun H1 e Q q =>
  ha H1 e _ fun H2 e2 => hb H2 (e.trans e2) _ fun H3 e3 => by
    have a1 := s1.ext ((e.trans e2).trans e3)
    have a2 := s2.ext ((e.trans e2).trans e3)
    obtain ⟨dx, v, h1, h2⟩ := id a1
    obtain ⟨dx2, v2, k1, k2⟩ := id a2
    exact ⟨S1, dx, _, .ref C, rfl, h1, .base (.ins k1 M.c.cl M.i.ha M.i.hn M.i.htk M.i.hm), M.nC, S1, .ref S2, ds, rfl, a1, g1.1, g1.2, .inl ⟨S2, es, rfl, a2, g2.1, g2.2, fun H4 e4 => q H4 ((e2.trans e3).trans e4)⟩⟩
theorem ev_eqSD (M : ScM P w K mg base C) (ha : Ev ta σ H (.ref S1)) (hb : Ev tb σ H (.str s)) (s1 : ScAt K C H S1 ds) (g1 : Sq ds) : Ev (tOp (rOwnI K C (spEq K C) E0) ta tb) σ H (.bl false) := fun H1 e Q q =>
  ha H1 e _ fun H2 e2 => hb H2 (e.trans e2) _ fun H3 e3 => by
    have a1 := s1.ext ((e.trans e2).trans e3)
    obtain ⟨dx, v, h1, h2⟩ := id a1
    have g : Dd K H3 (.str s) (.str s) := .str s
    exact ⟨S1, dx, _, .type (tyD (.str s)), rfl, h1, g.ty, M.i.nT _, S1, .str s, ds, rfl, a1, g1.1, g1.2, .inr ⟨.str s, g, fun H4 e4 => q H4 ((e2.trans e3).trans e4)⟩⟩
theorem ev_lenS (ha : Ev ta σ H (.ref S)) (s : ScAt K C H S ds) (ln : ds.length ≤ 900) : Ev (tCB (rLenI C (spLen K C) E0) (tCons ta tNil)) σ H (.int (ds.length : Int)) := fun H1 e Q q =>
  ha H1 e _ fun H2 e2 => by
    have a1 := s.ext (e.trans e2)
    obtain ⟨dx, v, h1, h2⟩ := id a1
    exact ⟨S, dx, _, rfl, h1, S, ds, rfl, a1, fun H3 e3 => ⟨ds.length, rfl, by omega, q H3 (e2.trans e3)⟩⟩
theorem ev_strS (ha : Ev ta σ H (.ref S)) (s : ScAt K C H S ds) (l : LL ds zs) (ln : ds.length ≤ 1) : Ev (tCB (rStrI C (spStr K C) E0) (tCons ta tNil)) σ H (.str (Txt.join "\n" zs)) := fun H1 e Q q =>
  ha H1 e _ fun H2 e2 => by
    have a1 := s.ext (e.trans e2)
    obtain ⟨dx, v, h1, h2⟩ := id a1
    exact ⟨S, dx, _, rfl, h1, S, ds, zs, rfl, a1, l, ln, fun H3 e3 => ⟨_, rfl, q H3 (e2.trans e3)⟩⟩
theorem ev_inSc {neg : Bool} {x : Str} (ha : Ev ta σ H (.str x)) (hb : Ev tb σ H (.ref S)) (s : ScAt K C H S ds) (cl : CL ds wss) (ln : ds.length ≤ 900) (nl : ∀ d ∈ ds, noList d = true) : Ev (tOp (rInI C (spIn K C) E0 neg) ta tb) σ H (.bl (if neg then !decide (x ∈ wss.flatten) else decide (x ∈ wss.flatten))) := fun H1 e Q q =>
  ha H1 e _ fun H2 e2 => hb H2 (e.trans e2) _ fun H3 e3 => by
    have a1 := s.ext ((e.trans e2).trans e3)
    obtain ⟨dx, v, h1, h2⟩ := id a1
    exact ⟨S, dx, _, rfl, h1, S, ds, wss, x, rfl, a1, cl, ln, nl, fun H4 e4 => ⟨_, rfl, q H4 ((e2.trans e3).trans e4)⟩⟩
theorem ed_wordsS (ha : Ev ta σ H (.ref S)) (s : ScAt K C H S ds) (cl : CL ds wss) (ln : ds.length ≤ 900) (wl : wss.flatten.length ≤ 900) (nl : ∀ d ∈ ds, noList d = true) : EvD K (tListG (tMethG C "call_words" (spGW K C) [] E0 ta tNil)) σ H (.list (wss.flatten.map PyData.str)) := fun H1 e Q q =>
  ha H1 e _ fun H2 e2 => by
    have a1 := s.ext (e.trans e2)
    obtain ⟨dx, v, h1, h2⟩ := id a1
    exact ⟨S, dx, _, rfl, h1, rfl, S, ds, wss, rfl, a1, cl, ln, wl, nl, fun H3 e3 p np => q _ _ ((e2.trans e3).trans (Ex.new np)) (.lst (SqL.of upd_same) (Dds.strs _))⟩
theorem mk_S {Q : VK} (q : ∀ S H2, H S = none → Ex H H2 → ScAt K C H2 S [] → Q (.ref S) H2) : tMkD K C (spSI K C) σ H Q := fun d hd S dS nS ndS dd =>
  ⟨S, dS, .ref d, [], rfl, upd_same, .tup (hd _) .nil, fun H3 b3 sc => ⟨rfl, q S H3 nS (ex_made (Ex.refl _) nS ndS b3) sc⟩⟩
theorem ev_eqSM (M : ScM P w K mg base C) (ha : Ev ta σ H (.ref S1)) (s1 : ScAt K C H S1 []) : Ev (tOp (rOwnI K C (spEq K C) E0) ta (tMkD K C (spSI K C))) σ H (.bl true) := fun H1 e Q q =>
  ha H1 e _ fun H2 e2 => mk_S fun S2 H3 n3 e3 a2 => by
    have a1 := s1.ext ((e.trans e2).trans e3)
    obtain ⟨dx, v, h1, h2⟩ := id a1
    obtain ⟨dx2, v2, k1, k2⟩ := id a2
    exact ⟨S1, dx, _, .ref C, rfl, h1, .base (.ins k1 M.c.cl M.i.ha M.i.hn M.i.htk M.i.hm), M.nC, S1, .ref S2, [], rfl, a1, rfl, (by decide +kernel), .inl ⟨S2, [], rfl, a2, rfl, (by decide +kernel), fun H4 e4 => q H4 ((e2.trans e3).trans e4)⟩⟩
theorem el_if {t : TT} {b : Bool} {xs : List V} (h : EvT t σ H b) (h1 : b = true → EvL ta σ H xs) (h2 : b = false → EvL tb σ H xs) : EvL (tIf t ta tb) σ H xs := fun H1 e Q q => h H1 e _ fun H2 e2 => by
  cases b with
  | true =>
    show ta σ H2 Q
    exact h1 rfl H2 (e.trans e2) Q fun p H3 n3 e3 => q p H3 (fresh_back e2 n3) (e2.trans e3)
  | false =>
    show tb σ H2 Q
    exact h2 rfl H2 (e.trans e2) Q fun p H3 n3 e3 => q p H3 (fresh_back e2 n3) (e2.trans e3)
theorem ed_iff {t : TT} {b : Bool} (h : EvT t σ H b) (h1 : b = true → EvD K ta σ H d) (h2 : b = false → EvD K tb σ H d) : EvD K (tIf t ta tb) σ H d := fun H1 e Q q => h H1 e _ fun H2 e2 => by
  cases b with
  | true =>
    show ta σ H2 Q
    exact h1 rfl H2 (e.trans e2) Q fun v H3 e3 => q v H3 (e2.trans e3)
  | false =>
    show tb σ H2 Q
    exact h2 rfl H2 (e.trans e2) Q fun v H3 e3 => q v H3 (e2.trans e3)
theorem el_cat1 {p : Addr} {xs : List V} {x : V} (ha : Ev ta σ H (.ref p)) (hp : H p = some (.lst xs)) (hx : Ev tb σ H x) (l : xs.length ≤ 1000) : EvL (tOp rCat ta (tLst (tCons tb tNil))) σ H (xs ++ [x]) := fun H1 e Q q =>
  ha H1 e _ fun H2 e2 => hx H2 (e.trans e2) _ fun H3 e3 => ⟨sz_of (show 1 ≤ 100000 by decide), fun b nb => by
    have h3 := ((e.trans e2).trans e3) _ _ hp
    refine ⟨p, b, xs, [x], rfl, rfl, Ex.new nb _ _ h3, upd_same, sz_of (show xs.length + 1 ≤ 100000 by omega), fun r nr => q r _ (fresh_back (e2.trans e3) (fresh_back (Ex.new nb) nr)) (((e2.trans e3).trans (Ex.new nb)).trans (Ex.new nr)) upd_same⟩⟩
theorem ed_neDS {e : PyData} (ha : EvD K ta σ H d) (hb : EvD K tb σ H e) (n1 : noDict d = true) (n2 : noDict e = true) (s1 : SeqAt.shaped d = true) (s2 : SeqAt.shaped e = true) : Ev (tOp (rNeD K) ta tb) σ H (.bl (!PyData.eqv d e)) := fun H1 x Q q =>
  ha H1 x _ fun v H2 e2 g => hb H2 (x.trans e2) _ fun u H3 e3 g2 => ⟨d, e, dp_ofL _ _ n1 (Dd.ext e3 _ _ g), dp_ofL _ _ n2 g2, s1, s2, q H3 (e2.trans e3)⟩
theorem ed_oL (h : EvDL K ta σ H ds) : EvD K ta σ H (.list ds) := fun H1 e Q q => h H1 e _ fun p xs H2 _ e2 hx gx => q (.ref p) H2 e2 (.lst (sq_of hx) gx)
end
end K70
set_option maxHeartbeats 16000000
namespace K70
open PySem PySem.Spec PyProof.Rows L2 Evl My LamX
/-! The law -/
abbrev sLaw : Stmt := top 45
def NLw : List Str := ["_law_script", "_law_state_here", "_law_operand_here", "_law_call", "_law_tokens", "_law_head", "_law_line", "_law_name", "_law_loose", "_law_token", "_law_found", "_law_again", "_law_empty", "_law_words"]
def spLaw (K : PySem.W.Frag) : Sp := fun vs H Q _ => ∃ (a : Addr) (cs : List Int), vs = [.ref a] ∧ SqL K H a (cs.map V.int) ∧ cs.length ≤ 63 ∧ ∀ H', Q (.bl true) H'
theorem scLaw : FnScope NLw ["_law_script"] (defScope sLaw) := ⟨rfl, rfl, rfl, by decide +kernel, rfl, by decide +kernel, by decide +kernel⟩
section
variable {P : Program} {w : World} {K : PySem.W.Frag} {mg : Str → Option Value} {base : Heap} {f C : Addr} {fd : FuncData}
theorem ok_law (F : Fun K "law" "law" sLaw f fd) (gi : mg "isinstance" = none) (gl : mg "len" = none) (gs : mg "str" = none) (gL : mg "list" = none) (M : ScM P w K mg base C)
    (MS : Mk1D P w K mg base C "Script" ["self", "statements"] 1 (spSI K C)) (GW : MG P w K mg base C "call_words" ["self"] 4 (spGW K C))
    (STA : Df P w K mg base "_law_state" ["_law_script"] 1 (spSta K)) (OPE : Df P w K mg base "_law_operand" ["_law_state_here"] 4 spOpe) (DR : Df P w K mg base "_law_draw" ["_law_state_here", "_law_many"] 2 spDrw)
    (WD : Df P w K mg base "_law_word" ["_law_state_here"] 3 spWd) (SPC : Df P w K mg base "_law_space" ["_law_state_here", "_law_least"] 3 spSpc) :
    FnOk P w K mg base CX0 22 f fd ["_law_script"] (spLaw K) := by
  refine F.ok scLaw (fun vs H Q E h => ?_) (fun cdv A outer s0 H vs Q E hr h => ?_)
  · obtain ⟨a, cs, rfl, _⟩ := h
    rfl
  · obtain ⟨a, cs, rfl, hS, cl, kQ⟩ := h
    have hr21 : Room 21 _ := hr
    have hr7 : Room 7 _ := hr21.mono (by decide)
    have hr4 : Room 4 _ := hr21.mono (by decide)
    have hr3 : Room 3 _ := hr21.mono (by decide)
    have hr2 : Room 2 _ := hr21.mono (by decide)
    have hr1 : Room 1 _ := hr21.mono (by decide)
    refine ⟨_, pss_cons (ps_set (i := 1) scLaw.nd rfl (Or.inl rfl) (pe_df STA hr1 rfl (pa_cons (pv 0) pa_nil)))
      (pss_cons (ps_set (i := 2) scLaw.nd rfl (Or.inl rfl) (pe_df OPE hr4 rfl (pa_cons (pv 1) pa_nil)))
      (pss_cons (ps_set (i := 3) scLaw.nd rfl (Or.inl rfl) (pe_ix ix_list (pe_lst (pa_cons pe_str (pa_cons pe_str (pa_cons pe_str (pa_cons pe_str (pa_cons pe_str pa_nil)))))) (pe_df DR hr2 rfl (pa_cons (pv 1) (pa_cons pe_int pa_nil))) (fun _ _ => rfl)))
      (pss_cons (ps_set (i := 4) scLaw.nd rfl (Or.inl rfl) (pe_ifExp (pt_cmpR op_eq (pv 3) pe_str (nomark _)) (pe_lst (pa_cons (pv 2) pa_nil)) (pe_lst (pa_cons (pv 3) (pa_cons pe_str (pa_cons (pv 2) (pa_cons pe_str pa_nil)))))))
      (pss_cons (ps_set (i := 5) scLaw.nd rfl (Or.inl rfl) (pe_df DR hr2 rfl (pa_cons (pv 1) (pa_cons pe_int pa_nil))))
      (pss_cons (ps_set (i := 6) scLaw.nd rfl (Or.inl rfl) (pe_op op_add_str (pe_bm PySem.F.plainAttrs_str PySem.F.slot_str_join PySem.F.type_str_join mt_join pe_str (pa_cons (pv 4) pa_nil)) pe_str))
      (pss_cons (ps_set (i := 7) scLaw.nd rfl (Or.inl rfl) (pe_df WD hr3 rfl (pa_cons (pv 1) pa_nil)))
      (pss_cons (ps_set (i := 8) scLaw.nd rfl (Or.inl rfl) (pe_df SPC hr3 rfl (pa_cons (pv 1) (pa_cons pe_int pa_nil))))
      (pss_cut (ps_if (pt_cmpR op_eq (pv 5) pe_int (nomark _))
        (pss_cons (ps_set (i := 6) scLaw.nd rfl (Or.inl rfl) (pe_op op_add_str (pe_op op_add_str (pv 7) pe_str) (pv 6)))
        (pss_one (ps_set (i := 8) scLaw.nd rfl (Or.inl rfl) (pe_op op_add_str (pe_op op_add_str (pe_op op_add_str (pe_op op_add_str (pv 8) (pv 7)) (pe_df SPC hr3 rfl (pa_cons (pv 1) (pa_cons pe_int pa_nil)))) pe_str) (pe_df SPC hr3 rfl (pa_cons (pv 1) (pa_cons pe_int pa_nil))))))) pss_nil)
      (pss_cut (ps_if (pt_cmpR op_eq (pv 5) pe_int (nomark _))
        (pss_cons (ps_set (i := 6) scLaw.nd rfl (Or.inl rfl) (pe_op op_add_str pe_str (pv 6)))
        (pss_one (ps_set (i := 8) scLaw.nd rfl (Or.inl rfl) (pe_op op_add_str (pe_op op_add_str (pv 8) pe_str) (pe_df SPC hr3 rfl (pa_cons (pv 1) (pa_cons pe_int pa_nil))))))) pss_nil)
      (pss_cons (ps_for PassesOwn.never rfl (pi_list (pe_op op_cat (pv 4) (pe_lst (pa_cons pe_str pa_nil)))) (pg_name (i := 9) scLaw.nd rfl (Or.inl rfl))
        (pss_one (ps_set (i := 8) scLaw.nd rfl (Or.inl rfl) (pe_op op_add_str (pe_op op_add_str (pv 8) (pv 9)) (pe_df SPC hr3 rfl (pa_cons (pv 1) (pa_cons pe_int pa_nil)))))))
      (pss_cons (ps_set (i := 10) scLaw.nd rfl (Or.inl rfl) (pe_readS M hr21 rfl (pa_cons (pv 8) pa_nil)))
      (pss_cons (ps_if (PW.pt (pw_or (pt_not (pt_val (pe_callB call_isi (by rfl) gi (by decide +kernel) (pa_cons (pv 10) (pa_cons (pe_glob (v := .ref C) rfl M.g rfl) pa_nil)))))
          (pw_or (pt_cmpR op_ne (pe_callB (call_lenS M hr2) (by rfl) gl (by decide +kernel) (pa_cons (pv 10) pa_nil)) pe_int (nomark _))
          (pw_or1 (pt_cmpR op_ne (pe_callTy (call_strS M hr7) (by rfl) gs (by decide +kernel) (pa_cons (pv 10) pa_nil)) (pv 6) (nomark _)))))) (pss_one (ps_ret pe_bl)) pss_nil)
      (pss_cons (ps_set (i := 11) scLaw.nd rfl (Or.inl rfl) (pe_readS M hr21 rfl (pa_cons (pv 6) pa_nil)))
      (pss_cons (ps_set (i := 12) scLaw.nd rfl (Or.inl rfl) (pe_readS M hr21 rfl (pa_cons (pe_df SPC hr3 rfl (pa_cons (pv 1) (pa_cons pe_int pa_nil))) pa_nil)))
      (pss_cons (ps_if (PW.pt (pw_or (pt_cmpR op_ne (pe_callTy (call_strS M hr7) (by rfl) gs (by decide +kernel) (pa_cons (pv 11) pa_nil)) (pv 6) (nomark _))
          (pw_or (pt_not (pt_cmpR (op_eqS M hr1) (pv 10) (pv 11) (nomark _)))
          (pw_or (pt_cmpR (op_eqS M hr1) (pv 10) (pv 12) (nomark _))
          (pw_or (pt_cmpR op_ne (pe_callB (call_lenS M hr2) (by rfl) gl (by decide +kernel) (pa_cons (pv 12) pa_nil)) pe_int (nomark _))
          (pw_or1 (pt_cmpR op_ne (pe_callTy (call_strS M hr7) (by rfl) gs (by decide +kernel) (pa_cons (pv 12) pa_nil)) pe_str (nomark _)))))))) (pss_one (ps_ret pe_bl)) pss_nil)
      (pss_cons (ps_if (PW.pt (pw_or (pt_not (pt_cmpR (op_eqS M hr1) (pv 12) (pe_mkD MS hr2 rfl) (nomark _)))
          (pw_or (pt_cmpR (op_eqS M hr1) (pv 10) (pv 6) (nomark _))
          (pw_or1 (pt_cmpR (op_neD hr1.units) (pe_words GW M.c.cl hr7 (pv 12) (by rfl) gL) (pe_lst pa_nil) (nomark _)))))) (pss_one (ps_ret pe_bl)) pss_nil)
      (pss_cons (ps_set (i := 13) scLaw.nd rfl (Or.inl rfl) (pe_ifExp (pt_cmpR op_eq (pv 3) pe_str (nomark _)) (pe_lst pa_nil) (pe_lst (pa_cons (pv 3) pa_nil))))
      (pss_one (ps_ret (pe_and (pe_cmpR (op_eqD hr1.units) (pe_words GW M.c.cl hr7 (pv 10) (by rfl) gL) (pv 13) (nomark _))
        (pe_and (pe_cmpR op_eq (pe_cmpR (op_inS M hr4) (pv 3) (pv 10) rfl) (pe_cmpR op_ne (pv 3) pe_str (nomark _)) (nomark _))
        (pe_one (pe_cmpR (op_niSc M hr4) pe_str (pv 10) rfl))))))))))))))))))))))), ?_⟩
    have szA : ∀ {a b : Str}, a.length + b.length ≤ 100000 → a.length + b.length ≤ sizeLine := fun h => sz_of h
    have e1 : ("=" : Str).length = 1 := by decide +kernel
    have e3 : (" = " : Str).length = 3 := by decide +kernel
    have eS : (";" : Str).length = 1 := by decide +kernel
    have e4 : ("tell" : Str).length = 4 := by decide +kernel
    have e5 : ("tell " : Str).length = 5 := by decide +kernel
    have eN : ∀ b : List Nat, (mkS b).length = b.length := fun b => mkS_len (b := b)
    -- the state, the operand, the call
    refine ⟨_, rfl, a, cs, rfl, hS, by omega, fun S H1 nS ex1 st1 => ?_⟩
    refine ⟨_, rfl, S, cs, rfl, st1, fun xs k z v d H2 op es xl b2 st2 => ?_⟩
    refine ⟨(show 5 ≤ sizeLine by decide), fun pc npc => ?_⟩
    refine ⟨_, rfl, S, 5, cs, rfl, by decide, by decide, st2.ex (Ex.new npc), fun u H3 b3 st3 u0 u1 => ?_⟩
    have pcS : pc ≠ S := fun z => by
      obtain ⟨ys, hy⟩ := st2.lst
      rw [← z, npc] at hy
      cases hy
    have hpc := b3 pc _ pcS upd_same
    obtain ⟨cw, hcw, hw⟩ : ∃ cw : Str, atI [V.str "", .str "find", .str "written", .str "size", .str "not"] u = some (.str cw) ∧ (cw = "" ∨ cw ∈ callW) := by
      obtain ⟨j, rfl⟩ := Int.eq_ofNat_of_zero_le u0
      have jl : j < 5 := by omega
      match j, jl with
      | 0, _ => exact ⟨_, rfl, .inl rfl⟩
      | 1, _ => exact ⟨_, rfl, .inr (by decide +kernel)⟩
      | 2, _ => exact ⟨_, rfl, .inr (by decide +kernel)⟩
      | 3, _ => exact ⟨_, rfl, .inr (by decide +kernel)⟩
      | 4, _ => exact ⟨_, rfl, .inr (by decide +kernel)⟩
    refine ⟨pc, _, u, .str cw, rfl, rfl, SqL.of hpc, hcw, ?_⟩
    obtain ⟨toks, r, d', ws, ze, ex, wo, l4, t18, tk⟩ : ∃ (toks : List Str) (r : List Wd) (d' : PyData) (ws : List Str) (ze : Str), ExT toks r d' ws ze ∧ WsOk cw ws ∧ toks.length ≤ 4 ∧ (∀ t ∈ toks, t.length ≤ 18) ∧ toks = if cw = "" then [z] else [cw, "(", z, ")"] := by
      have lz : z.length ≤ 18 := by
        rw [← len_tl, es]
        exact xl
      rcases hw with rfl | hw
      · exact ⟨_, _, _, _, _, .op op, .inl ⟨rfl, rfl⟩, (show 1 ≤ 4 by decide), fun t ht => by cases List.mem_singleton.mp ht; exact lz, by rw [if_pos rfl]⟩
      · refine ⟨_, _, _, _, _, .call hw op, .inr ⟨hw, rfl⟩, Nat.le_refl 4, fun t ht => ?_, by rw [if_neg (cw_ne hw)]⟩
        have q : cw = "find" ∨ cw = "written" ∨ cw = "size" ∨ cw = "not" := by simpa [callW] using hw
        have lw : cw.length ≤ 7 := by
          rcases q with g | g | g | g <;> (subst g; decide +kernel)
        simp only [List.mem_cons, List.not_mem_nil, or_false] at ht
        rcases ht with rfl | rfl | rfl | rfl
        · omega
        · decide +kernel
        · exact lz
        · decide +kernel
    refine q_asgL (xs := toks.map V.str) (el_if (b := decide (V.str cw = .str "")) (et_test (ev_op (ev_var rfl) ev_c (rv_eq rfl))) (fun hb => ?_) (fun hb => ?_)) fun p2 H4 n4 ex4 h4 => ?_
    · have hc : cw = "" := V.str.inj (of_decide_eq_true hb)
      rw [tk, if_pos hc]
      exact el_lst (ea_cons (ev_var rfl) ea_nil) (show 1 ≤ 100000 by decide)
    · have hc : cw ≠ "" := fun z => of_decide_eq_false hb (by rw [z])
      rw [tk, if_neg hc]
      exact el_lst (ea_cons (ev_var rfl) (ea_cons ev_c (ea_cons (ev_var rfl) (ea_cons ev_c ea_nil)))) (show 4 ≤ 100000 by decide)
    have st4 := st3.ex ex4
    have pS : p2 ≠ S := fun z => by
      obtain ⟨ys, hy⟩ := st3.lst
      rw [← z, n4] at hy
      cases hy
    refine ⟨_, rfl, S, 3, cs, rfl, by decide, by decide, st4, fun hd H5 b5 st5 hd0 hd1 => ?_⟩
    have h5 := b5 p2 _ pS h4
    have jn : Txt.join "" toks = ze := ex.jn
    have lz : ze.length ≤ 72 := ex.len t18
    refine ⟨rfl, _, rfl, "", p2, toks, rfl, rfl, .inl (sq_of h5), ExT.sum l4 t18, ze, ";", by rw [jn], rfl, szA (by omega), ?_⟩
    refine ⟨_, rfl, S, cs, rfl, st5, fun nm H6 hn nl b6 st6 => ?_⟩
    have h6 := b6 p2 _ pS h5
    refine ⟨_, rfl, S, 0, cs, rfl, by decide, st6, fun b H7 bk bl _ b7 st7 => ?_⟩
    have h7 := b7 p2 _ pS h6
    have lb := eN b
    have tst : ∀ (j : Int) {σ : L2.St} (G : Hp), σ[5]? = some (some (V.int hd)) → EvT (tTest (tOp rEq (tVar 5) (tC (.int j)))) σ G (decide (V.int hd = .int j)) := fun j σ G h => et_test (ev_op (ev_var h) ev_c (rv_eq rfl))
    refine q_cut (M := fun σ' H' => ∃ (line loose : Str), σ' = [some (.ref a), some (.ref S), some (.str z), some (.str cw), some (.ref p2), some (.int hd), some (.str line), some (.str nm), some (.str loose), none, none, none, none, none] ∧ StA H' S cs ∧ H' p2 = some (.lst (toks.map V.str)) ∧
      ((hd = 0 ∧ line.length ≤ 200 ∧ ∃ (r' : List Wd) (d2 : PyData), St1 r' d2 ws line ∧ Lp toks r' 0 loose) ∨ (hd ≠ 0 ∧ line = ze ++ ";" ∧ loose = mkS b))) ?_ ?_
    · refine s_when (tst 0 _ rfl) (fun h0 H8 ex8 => ?_) (fun h0 H8 ex8 => ⟨_, _, rfl, st7.ex ex8, ex8 _ _ h7, .inr ⟨fun z => of_decide_eq_false h0 (by rw [z]), rfl, rfl⟩⟩)
      refine ⟨_, rfl, nm, " = ", rfl, rfl, szA (by omega), _, rfl, nm ++ " = ", ze ++ ";", rfl, rfl, szA (by simp only [app_len]; omega), ?_⟩
      refine ⟨_, rfl, _, rfl, mkS b, nm, rfl, rfl, szA (by omega), _, rfl, S, 0, cs, rfl, by decide, st7.ex ex8, fun b1 H9 k1 l1 _ bb1 st9 => ?_⟩
      have lb1 := eN b1
      refine ⟨mkS b ++ nm, mkS b1, rfl, rfl, szA (by simp only [app_len]; omega), (mkS b ++ nm) ++ mkS b1, "=", rfl, rfl, szA (by simp only [app_len]; omega), _, rfl, S, 0, cs, rfl, by decide, st9, fun b2 H10 k2 l2 _ bb2 st10 => ?_⟩
      have lb2 := eN b2
      refine ⟨((mkS b ++ nm) ++ mkS b1) ++ "=", mkS b2, rfl, rfl, szA (by simp only [app_len]; omega), ?_⟩
      have s1 := St1.set hn ex.ex
      rw [app_as] at s1
      exact ⟨_, _, rfl, st10, bb2 p2 _ pS (bb1 p2 _ pS (ex8 _ _ h7)), .inl ⟨V.int.inj (of_decide_eq_true h0), by simp only [app_len]; omega, _, _, s1, lp_set hn nl ex bk bl k1 l1 k2 l2⟩⟩
    rintro σ8 H8 ⟨line, loose, rfl, st8, h8, alt⟩
    refine q_cut (M := fun σ' H' => ∃ (line loose : Str), σ' = [some (.ref a), some (.ref S), some (.str z), some (.str cw), some (.ref p2), some (.int hd), some (.str line), some (.str nm), some (.str loose), none, none, none, none, none] ∧ StA H' S cs ∧ H' p2 = some (.lst (toks.map V.str)) ∧ line.length ≤ 200 ∧
      ∃ (r' : List Wd) (d2 : PyData), St1 r' d2 ws line ∧ Lp toks r' 0 loose) ?_ ?_
    · refine s_when (tst 1 _ rfl) (fun h1 H9 ex9 => ?_) (fun h1 H9 ex9 => ⟨_, _, rfl, st8.ex ex9, ex9 _ _ h8, ?_⟩)
      · have z1 : hd = 1 := V.int.inj (of_decide_eq_true h1)
        rcases alt with ⟨z0, _⟩ | ⟨_, rfl, rfl⟩
        · omega
        refine ⟨_, rfl, "tell ", ze ++ ";", rfl, rfl, szA (by simp only [app_len]; omega), ?_⟩
        refine ⟨_, rfl, mkS b, "tell", rfl, rfl, szA (by omega), _, rfl, S, 1, cs, rfl, Nat.le_refl 1, st8.ex ex9, fun b1 H10 k1 l1 n1 bb1 st10 => ?_⟩
        have lb1 := eN b1
        refine ⟨mkS b ++ "tell", mkS b1, rfl, rfl, szA (by simp only [app_len]; omega), ?_⟩
        have s1 := St1.tell ex.ex
        rw [app_as] at s1
        exact ⟨_, _, rfl, st10, bb1 p2 _ pS (ex9 _ _ h8), by simp only [app_len]; omega, _, _, s1, lp_tell ex bk bl k1 l1 n1⟩
      · rcases alt with ⟨_, ll, r', d2, s1, lp⟩ | ⟨_, rfl, rfl⟩
        · exact ⟨ll, r', d2, s1, lp⟩
        · exact ⟨by simp only [app_len]; omega, _, _, .do_ ex.ex, lp_do ex bk bl⟩
    clear alt
    rintro σ9 H9 ⟨line, loose, rfl, st9, h9, ll, r', d2, s1, lp0⟩
    have gd := s1.good
    refine q_forNLn (xs := toks.map V.str ++ [.str ";"]) (el_cat1 (ev_var rfl) h9 ev_c (by rw [List.length_map]; omega)) (fun p i σ' H' => ∃ (loose : Str) (o : Option V), σ' = [some (.ref a), some (.ref S), some (.str z), some (.str cw), some (.ref p2), some (.int hd), some (.str line), some (.str nm), some (.str loose), o, none, none, none, none] ∧
      p ≠ S ∧ StA H' S cs ∧ H' p = some (.lst (toks.map V.str ++ [.str ";"])) ∧ Lp toks r' i loose) (fun p G np eG hG => ?_) (fun p i σ' H' _ h => ?_) (fun p i x σ' H' hx h => ?_) fun p σ' H' h => ?_
    · refine ⟨loose, none, rfl, fun z => ?_, st9.ex eG, hG, lp0⟩
      obtain ⟨ys, hy⟩ := st9.lst
      rw [← z, np] at hy
      cases hy
    · obtain ⟨_, _, _, _, _, hp, _⟩ := h
      exact SqL.of hp
    · obtain ⟨loose, o, rfl, pS2, stA, hp, lp⟩ := h
      have em : toks.map V.str ++ [V.str ";"] = (toks ++ [(";" : Str)]).map V.str := by rw [List.map_append]; rfl
      rw [em, List.getElem?_map] at hx
      obtain ⟨t, ht, hxt⟩ : ∃ t, (toks ++ [(";" : Str)])[i]? = some t ∧ x = V.str t := by
        cases e : (toks ++ [(";" : Str)])[i]? with
        | none =>
          rw [e] at hx
          cases hx
        | some t =>
          rw [e] at hx
          exact ⟨t, rfl, (Option.some.inj hx).symm⟩
      subst hxt
      have il : i ≤ 4 := by
        have q := (List.getElem?_eq_some_iff.mp ht).1
        rw [List.length_append] at q
        have q2 : i < toks.length + 1 := q
        omega
      have tl : t.length ≤ 18 := by
        rcases List.mem_append.mp (List.mem_of_getElem? ht) with m | m
        · exact t18 t m
        · rw [List.mem_singleton.mp m]
          omega
      have ln := lp.len
      refine ⟨_, rfl, _, rfl, loose, t, rfl, rfl, szA (by omega), _, rfl, S, 0, cs, rfl, by decide, stA, fun bl2 H10 k2 l2 _ bb st10 => ?_⟩
      have lb2 := eN bl2
      refine ⟨loose ++ t, mkS bl2, rfl, rfl, szA (by simp only [app_len]; omega), ?_⟩
      exact ⟨_, _, rfl, pS2, st10, bb p _ pS2 hp, lp.step ht tl k2 l2⟩
    obtain ⟨loose, o, rfl, _, st10, _, lp⟩ := h
    have lx : (toks.map V.str ++ [V.str ";"]).length = toks.length + 1 := by
      rw [List.length_append, List.length_map]
      rfl
    rw [lx] at lp
    obtain ⟨bb, ps, kb, hb, hk, hf, ht, lloose⟩ := lp.fin
    obtain ⟨run1, it1, lay1, pa1⟩ := read_st s1 hf hk ht kb hb
    obtain ⟨ps2, hf2, hk2, ht2, hb2⟩ := s1.line
    obtain ⟨run2, it2, lay2, pa2⟩ := read_st s1 hf2 hk2 ht2 bk_nil hb2
    refine ⟨rfl, _, rfl, loose, bb.length, it1, [d2], rfl, by omega, run1, lay1, pa1, (show 1 ≤ 900 by decide), fun F H11 nF ex11 scF => ?_⟩
    have st11 := st10.ex ex11
    -- the first if
    have one : ∀ G : Hp, decide (V.int (([d2] : List PyData).length : Int) = .int 1) = true := fun _ => rfl
    have sq1 : Sq [d2] := gd.sh (by decide)
    have l1 : LL [d2] [line] := .cons s1.l1 (by omega) .nil
    have nl1 : ∀ d ∈ ([d2] : List PyData), noList d = true := fun d hd => by
      cases List.mem_singleton.mp hd
      exact gd.nl
    have strL : ∀ {σ : L2.St} {G : Hp} {i : Nat} {A : Addr}, σ[i]? = some (some (V.ref A)) → ScAt K C G A [d2] → Ev (tCB (rStrI C (spStr K C) E0) (tCons (tVar i) tNil)) σ G (.str line) := fun h sc => by
      have q := ev_strS (ev_var h) sc l1 (Nat.le_refl 1)
      rw [jn1] at q
      exact q
    have neS : ∀ {σ : L2.St} {G : Hp} {ta tb : TE} {y : Str}, Ev ta σ G (.str y) → Ev tb σ G (.str y) → EvT (tTest (tOp rNe ta tb)) σ G false := fun {σ G ta tb y} ha hb => by
      have q := et_test (ev_op ha hb (rv_ne rfl))
      rw [decide_eq_true (show V.str y = V.str y from rfl)] at q
      exact q
    have neI : ∀ {σ : L2.St} {G : Hp} {ta tb : TE} {y : Int}, Ev ta σ G (.int y) → Ev tb σ G (.int y) → EvT (tTest (tOp rNe ta tb)) σ G false := fun {σ G ta tb y} ha hb => by
      have q := et_test (ev_op ha hb (rv_ne rfl))
      rw [decide_eq_true (show V.int y = V.int y from rfl)] at q
      exact q
    refine q_when (b := false) (et_or (a := false) (b := false) (et_not (a := true) (et_B (ev_isSc M.c M.i scF (ev_var rfl)))) fun _ => et_or (a := false) (b := false) (neI (ev_lenS (ev_var rfl) scF (show 1 ≤ 900 by decide)) ev_c) fun _ => neS (strL rfl scF) (ev_var rfl)) (fun z => by cases z) fun _ H12 ex12 => ?_
    have scF2 := scF.ext ex12
    have st12 := st11.ex ex12
    -- again
    refine ⟨rfl, _, rfl, line, 0, it2, [d2], rfl, by omega, run2, lay2, pa2, (show 1 ≤ 900 by decide), fun G H13 nG ex13 scG => ?_⟩
    have scF3 := scF2.ext ex13
    have st13 := st12.ex ex13
    -- empty
    refine ⟨rfl, _, rfl, S, 0, cs, rfl, by decide, st13, fun b3 H14 k3 l3 _ bb3 st14 => ?_⟩
    obtain ⟨run3, it3, lay3, pa3⟩ := read_none (t := mkS b3) k3 rfl
    have lb3 := eN b3
    refine ⟨mkS b3, b3.length, it3, [], rfl, by omega, run3, lay3, pa3, Nat.zero_le _, fun N H15 nN ex15 scN => ?_⟩
    have scF5 := (scF3.but gd.nls st13 st14 bb3).ext ex15
    have scG5 := (scG.but gd.nls st13 st14 bb3).ext ex15
    clear scF scF2 scF3 scG
    have sq0 : Sq [] := nil_sh
    have str0 : ∀ {σ : L2.St} {G : Hp} {i : Nat} {A : Addr}, σ[i]? = some (some (V.ref A)) → ScAt K C G A [] → Ev (tCB (rStrI C (spStr K C) E0) (tCons (tVar i) tNil)) σ G (.str "") := fun h sc => by
      have q := ev_strS (ev_var h) sc .nil (Nat.zero_le 1)
      rw [jn0] at q
      exact q
    refine q_when (b := false) (et_or (a := false) (b := false) (neS (strL rfl scG5) (ev_var rfl)) fun _ =>
      et_or (a := false) (b := false) (et_not (a := true) (et_test (ev_is (ev_eqSS M (ev_var rfl) (ev_var rfl) scF5 scG5 sq1 sq1) (by rw [gd.eqv])))) fun _ =>
      et_or (a := false) (b := false) (et_test (ev_is (ev_eqSS M (ev_var rfl) (ev_var rfl) scF5 scN sq1 sq0) (by rw [eqv_no]))) fun _ =>
      et_or (a := false) (b := false) (neI (ev_lenS (ev_var rfl) scN (Nat.zero_le 900)) ev_c) fun _ => neS (str0 rfl scN) ev_c) (fun z => by cases z) fun _ H16 ex16 => ?_
    have cl1 : CL [d2] [ws] := s1.cl
    have fl : [ws].flatten = ws := by simp
    obtain ⟨w1, w2, w3⟩ := wo.eq
    have wl : [ws].flatten.length ≤ 900 := by
      rw [fl]
      rcases wo with ⟨_, rfl⟩ | ⟨_, rfl⟩
      · exact Nat.zero_le _
      · exact (show 1 ≤ 900 by decide)
    have wF : ∀ {σ : L2.St} {G : Hp} {i : Nat} {A : Addr}, σ[i]? = some (some (V.ref A)) → ScAt K C G A [d2] → EvD K (tListG (tMethG C "call_words" (spGW K C) [] E0 (tVar i) tNil)) σ G (.list (ws.map PyData.str)) := fun h sc => by
      have q := ed_wordsS (ev_var h) sc cl1 (show 1 ≤ 900 by decide) wl nl1
      rw [fl] at q
      exact q
    have scN2 := scN.ext ex16
    have scF6 := scF5.ext ex16
    -- the third
    refine q_when (b := false) (et_or (a := false) (b := false) (et_not (a := true) (et_test (ev_eqSM M (ev_var rfl) scN2))) fun _ =>
      et_or (a := false) (b := false) (et_test (ev_eqSD M (ev_var rfl) (ev_var rfl) scF6 sq1)) fun _ =>
      et_test (ev_is (ed_neDS (ed_wordsS (ev_var rfl) scN2 .nil (Nat.zero_le 900) (Nat.zero_le 900) (fun d hd => by cases hd)) (ed_oL (edl_lst eds_nil (Nat.zero_le _))) rfl rfl (by decide +kernel) (by decide +kernel)) rfl)) (fun z => by cases z) fun _ H17 ex17 => ?_
    have scF7 := scF6.ext ex17
    refine q_asgL (xs := ws.map V.str) (el_if (b := decide (V.str cw = .str "")) (et_test (ev_op (ev_var rfl) ev_c (rv_eq rfl))) (fun hb => ?_) (fun hb => ?_)) fun p3 H18 n18 ex18 h18 => ?_
    · have hc : cw = "" := V.str.inj (of_decide_eq_true hb)
      have hw2 : ws = [] := by
        rcases wo with ⟨_, rfl⟩ | ⟨m, _⟩
        · rfl
        · exact absurd hc (cw_ne m)
      rw [hw2]
      exact el_lst ea_nil (Nat.zero_le _)
    · have hc : cw ≠ "" := fun z => of_decide_eq_false hb (by rw [z])
      have hw2 : ws = [cw] := by
        rcases wo with ⟨m, _⟩ | ⟨_, rfl⟩
        · exact absurd m hc
        · rfl
      rw [hw2]
      exact el_lst (ea_cons (ev_var rfl) ea_nil) (show 1 ≤ 100000 by decide)
    have scF8 := scF7.ext ex18
    have inC : ∀ {σ : L2.St} {G : Hp} {ta : TE} {x : Str} {neg : Bool} {i : Nat} {A : Addr}, Ev ta σ G (.str x) → σ[i]? = some (some (V.ref A)) → ScAt K C G A [d2] → Ev (tOp (rInI C (spIn K C) E0 neg) ta (tVar i)) σ G (.bl (if neg then !decide (x ∈ ws) else decide (x ∈ ws))) := fun {σ G ta x neg i A} ha h sc => by
      have q := ev_inSc (neg := neg) ha (ev_var h) sc cl1 (show 1 ≤ 900 by decide) nl1
      rw [fl] at q
      exact q
    refine s_ret (v := .bl true) (ev_andV (a := true) (b := true) (ev_is (ed_eqD (wF rfl scF8) (ed_var rfl (.lst (SqL.of h18) (Dds.strs ws))) w1 w1 w2 w2) (congrArg V.bl w3)) fun _ =>
      ev_andV (a := true) (b := true) (ev_is (ev_op (inC (neg := false) (ev_var rfl) rfl scF8) (ev_op (ev_var rfl) ev_c (rv_ne rfl)) (rv_eq rfl)) ?_) fun _ => ev_is (inC (neg := true) ev_c rfl scF8) ?_) fun H19 _ => kQ H19
    · show V.bl (decide (V.bl (decide (cw ∈ ws)) = V.bl (!decide (V.str cw = V.str "")))) = .bl true
      rw [wo.mem, decide_eq_true rfl]
    · show V.bl (!decide (("delete" : Str) ∈ ws)) = .bl true
      rw [wo.del]
      rfl
end
end K70
set_option maxHeartbeats 8000000
/-! the head's facts, gathered -/
namespace K70
open PySem PySem.Spec PyProof.Rows L2 Evl My LamX
structure HasDef (K : PySem.W.Frag) (x : Str) (st : Stmt) (f : Addr) : Prop where
  g : PySem.W.nsIn K mainGlobals x = some (some (.ref f))
  k : PySem.W.keepIn K (.ref f) = true
  F : ∃ fd, Fun K x x st f fd
theorem hasDef {K : PySem.W.Frag} {x : Str} {st : Stmt} {f : Addr} {oc : Value} {od an : Option Addr} {osl : Array (Option Value)} {kV doc pm cdv ct : Value}
    (g : PySem.W.nsIn K mainGlobals x = some (some (.ref f)))
    (lf : K.lookup f = some ⟨oc, od, .func (PySem.W.fnOf x x (defArgs st) (defBody st) (defScope st) .none kV doc pm an cdv ct), osl⟩) (cf : PySem.W.codeIn K cdv x = true) (kf : PySem.W.keepIn K (.ref f) = true) : HasDef K x st f :=
  ⟨g, kf, _, fun_mk lf cf kf⟩
/-- a method of the class at C -/
structure HasMeth (K : PySem.W.Frag) (C : Addr) (x qual : Str) (st : Stmt) (f : Addr) : Prop where
  a : PySem.W.findIn K (.ref C) x = some (some (.ref f))
  t : PySem.W.typeIn K (.ref f) = some (.type "function")
  F : ∃ fd, Fun K x qual st f fd
theorem hasMeth {K : PySem.W.Frag} {C : Addr} {x qual : Str} {st : Stmt} {f : Addr} {oc : Value} {od an : Option Addr} {osl : Array (Option Value)} {kV doc pm cdv ct : Value}
    (a : PySem.W.findIn K (.ref C) x = some (some (.ref f))) (t : PySem.W.typeIn K (.ref f) = some (.type "function"))
    (lf : K.lookup f = some ⟨oc, od, .func (PySem.W.fnOf x qual (defArgs st) (defBody st) (defScope st) .none kV doc pm an cdv ct), osl⟩) (cf : PySem.W.codeIn K cdv qual = true) (kf : PySem.W.keepIn K (.ref f) = true) : HasMeth K C x qual st f :=
  ⟨a, t, _, fun_mk lf cf kf⟩
theorem HasMeth.m {K : PySem.W.Frag} {C : Addr} {x qual : Str} {st : Stmt} {f : Addr} (h : HasMeth K C x qual st f) : Meth K C x f := by
  obtain ⟨fd, F⟩ := h.F
  exact ⟨h.a, (by unfold PySem.W.isFn; rw [h.t]; rfl), F.kp⟩
/-- __init__, its default an empty tuple -/
structure HasInit (K : PySem.W.Frag) (C f t : Addr) : Prop where
  a : PySem.W.findIn K (.ref C) "__init__" = some (some (.ref f))
  ty : PySem.W.typeIn K (.ref f) = some (.type "function")
  F : ∃ fd, FunD K "__init__" "Script.__init__" (defArgs cInit) (defBody cInit) (defScope cInit) [.ref t] [] f fd
  e : ∀ H, SqT K H t []
theorem hasInit {K : PySem.W.Frag} {C f t D : Addr} {oc kc : Value} {od an kd td : Option Addr} {osl ksl tsl : Array (Option Value)} {kV doc pm cdv ct : Value} {n m : Nat}
    (a : PySem.W.findIn K (.ref C) "__init__" = some (some (.ref f))) (ty : PySem.W.typeIn K (.ref f) = some (.type "function"))
    (lf : K.lookup f = some ⟨oc, od, .func (PySem.W.fnOf "__init__" "Script.__init__" (defArgs cInit) (defBody cInit) (defScope cInit) (.ref D) kV doc pm an cdv ct), osl⟩) (cf : PySem.W.codeIn K cdv "Script.__init__" = true) (kf : PySem.W.keepIn K (.ref f) = true)
    (lD : K.lookup D = some ⟨kc, kd, .seq #[.ref t] n, ksl⟩) (lt : K.lookup t = some ⟨.type "tuple", td, .seq #[] m, tsl⟩) : HasInit K C f t :=
  ⟨a, ty, ⟨_, ⟨⟨oc, od, .ref D, kV, doc, pm, an, cdv, ct, osl, rfl, lf, cf, .inr ⟨by simp, D, _, [.ref t], n, rfl, lD, rfl, .cons rfl .nil⟩, .inl rfl⟩, kf⟩⟩, fun H => .inr ⟨_, #[], m, lt, rfl, rfl, Nat.zero_le _, .nil⟩⟩
section
variable {K : PySem.W.Frag} {f t : Addr} {fd : FuncData}
theorem init_b2 (F : FunD K "__init__" "Script.__init__" (defArgs cInit) (defBody cInit) (defScope cInit) [.ref t] [] f fd) : Binds K fd ["self", "statements"] [] := by
  obtain ⟨ds, h, b⟩ := F.binds1 (ps := ["self", "statements"]) 2 1 (by simp) rfl fun T kV doc pm an cdv ct us its h1 h2 => match us, h1, its, h2 with
    | [a, b], _, [x], _ => ⟨_, rfl, rfl⟩
  cases h
  exact b
theorem init_b1 (F : FunD K "__init__" "Script.__init__" (defArgs cInit) (defBody cInit) (defScope cInit) [.ref t] [] f fd) : Binds K fd ["self", "statements"] [.ref t] := by
  obtain ⟨ds, h, b⟩ := F.binds1 (ps := ["self", "statements"]) 1 0 (by simp) rfl fun T kV doc pm an cdv ct us its h1 h2 => match us, h1, its, h2 with
    | [a], _, [x], _ => ⟨_, rfl, rfl⟩
  cases h with
  | cons h1 h2 =>
    cases h2
    cases h1
    exact b
end
/-- types of data -/
def tyL : List String := ["NoneType", "bool", "int", "str", "list", "tuple", "dict"]
theorem tyD_in (d : PyData) : tyD d ∈ tyL := by
  cases d <;> simp [tyD, tyL]
/-- a tuple of the module -/
structure TupK (K : PySem.W.Frag) (a : Addr) (xs : List V) : Prop where
  e : ∃ (od : Option Addr) (its : Array Value) (n : Nat) (sl : Array (Option Value)), K.lookup a = some ⟨.type "tuple", od, .seq its n, sl⟩ ∧ its.size ≤ 100 ∧ Vals xs its.toList
theorem tupK {K : PySem.W.Frag} {a : Addr} {xs : List V} {od : Option Addr} {its : Array Value} {n : Nat} {sl : Array (Option Value)} (h : K.lookup a = some ⟨.type "tuple", od, .seq its n, sl⟩) (v : Vals xs its.toList) (s : its.size ≤ 100) : TupK K a xs := ⟨_, _, _, _, h, s, v⟩
theorem TupK.sq {K : PySem.W.Frag} {a : Addr} {xs : List V} (t : TupK K a xs) (H : Hp) : SqT K H a xs := by
  obtain ⟨od, its, n, sl, h, s, v⟩ := t.e
  exact .inr ⟨_, its, n, h, rfl, rfl, Nat.le_trans s (by decide), v⟩
def clsB (K : PySem.W.Frag) (C : Addr) : Bool :=
  PySem.W.plainGet K C Str.empty && PySem.W.hasDictIn K C && PySem.W.plainOver K C && (PySem.W.findIn K (.ref C) "__setattr__" == some (some (.builtin "object.__setattr__"))) && PySem.W.makesIn K C && PySem.W.keepIn K (.ref C)
structure ClsB (K : PySem.W.Frag) (C : Addr) : Prop where
  c : Cls K C
  m : PySem.W.makesIn K C = true
  k : PySem.W.keepIn K (.ref C) = true
theorem clsB_of {K : PySem.W.Frag} {C : Addr} (h : clsB K C = true) : ClsB K C := by
  unfold clsB at h
  simp only [Bool.and_eq_true, beq_iff_eq] at h
  obtain ⟨⟨⟨⟨⟨h1, h2⟩, h3⟩, h4⟩, h5⟩, h6⟩ := h
  exact ⟨⟨h1, h2, h3, h4⟩, h5, h6⟩
def rdB (K : PySem.W.Frag) (C : Addr) : Bool := (PySem.W.findIn K (.ref C) "tokens" == some none) && (PySem.W.findIn K (.ref C) "place" == some none)
theorem rdB_of {K : PySem.W.Frag} {C : Addr} (c : Cls K C) (h : rdB K C = true) : RdC K C := by
  unfold rdB at h
  simp only [Bool.and_eq_true, beq_iff_eq] at h
  exact ⟨c, h.1, h.2⟩
def scB (K : PySem.W.Frag) (C : Addr) : Bool := (PySem.W.findIn K (.ref C) "statements" == some none) &&
  (PySem.W.findIn K (.ref C) "__class__" == some (some (.builtin "object.__class__"))) && (PySem.W.specialIn K (.builtin "object.__class__") "__get__" == some (some (.builtin "getset_descriptor.__get__"))) && (PySem.W.takesIn K (.builtin "object.__class__") == some true) && (PySem.W.mroIn K C (.type "object") == some true) &&
  (PySem.W.kitOne K (.ref C) (.ref C) == some true) && (tyL.all fun t => PySem.W.kitOne K (.type t) (.ref C) == some false) && (tyL.all fun t => PySem.W.notFirst K C (.type t)) && PySem.W.notFirst K C (.ref C)
structure ScB (K : PySem.W.Frag) (C : Addr) : Prop where
  c : ScC K C
  i : LvI K C
  n : PySem.W.notFirst K C (.ref C) = true
theorem scB_of {K : PySem.W.Frag} {C : Addr} (c : Cls K C) (h : scB K C = true) : ScB K C := by
  unfold scB at h
  simp only [Bool.and_eq_true, beq_iff_eq, List.all_eq_true] at h
  obtain ⟨⟨⟨⟨⟨⟨⟨⟨h5, h10⟩, h11⟩, h12⟩, h13⟩, h14⟩, h15⟩, h16⟩, h17⟩ := h
  exact ⟨⟨c, h5⟩, ⟨h10, h11, h12, h13, h14, fun d => h15 _ (tyD_in d), fun d => h16 _ (tyD_in d)⟩, h17⟩
/-- a static method -/
structure HasStat (K : PySem.W.Frag) (C : Addr) (mc : Value) (p g : Addr) : Prop where
  r : ClX.CRead K C mc
  s : SMet K C mc "read" p g
  F : ∃ fd, Fun K "read" "Script.read" cRead g fd
theorem hasStat {K : PySem.W.Frag} {C p g : Addr} {mc oc : Value} {od an : Option Addr} {osl : Array (Option Value)} {kV doc pm cdv ct : Value} {rest : List Value}
    (rd : PySem.W.readsIn K C mc = true) (ga : PySem.W.specialIn K (.ref C) "__getattribute__" = some (some (.builtin "type.__getattribute__")))
    (at_ : PySem.W.findCls K (.ref C) mc "read" = some (.get (.builtin "staticmethod.__get__") (.ref p) .none (.ref C))) (rc : PySem.W.recIn K p "staticmethod" = some (.ref g :: rest))
    (lf : K.lookup g = some ⟨oc, od, .func (PySem.W.fnOf "read" "Script.read" (defArgs cRead) (defBody cRead) (defScope cRead) .none kV doc pm an cdv ct), osl⟩) (cf : PySem.W.codeIn K cdv "Script.read" = true) (kf : PySem.W.keepIn K (.ref g) = true) : HasStat K C mc p g :=
  ⟨⟨rd, ga⟩, ⟨at_, ⟨rest, rc⟩, kf⟩, _, fun_mk lf cf kf⟩
section
variable {l : PySem.W.OpenLaw} {w : World} {K : PySem.W.Frag} {mg : Str → Option Value} {h : Heap} {fa CR CS fI tI pR gR pG pA pK pS g0 g1 g2 g3 g4 a0 a1 a2 a3 d0 d1 d2 d3 d4 d5 d6 d7 d8 d9 d10 d11 d12 d13 d14 d15 d16 d17 d18 d19 q0 q1 q2 q3 q4 q5 q6 q7 q8 q9 q10 q11 p0 p1 p2 p3 p4 : Addr} {uLe uDi uWs uBl uMd uLs uMn : Value} {es : Array DictEntry} {nA nG : Nat} {odG : Option Addr} {slG : Array (Option Value)}
theorem all_mk (X : K.In h) (G : h.Ns mainGlobals mg) (hfa : mg "law" = some (.ref fa))
    (gC : PySem.W.nsIn K mainGlobals "Reader" = some (some (.ref CR))) (gD : PySem.W.nsIn K mainGlobals "Script" = some (some (.ref CS))) (cb1 : clsB K CR = true) (cb2 : clsB K CS = true) (rb : rdB K CR = true) (sb : scB K CS = true)
    (iI : HasInit K CS fI tI) (hS : HasStat K CS (.type "type") pR gR)
    (h0 : HasMeth K CR "__init__" "Reader.__init__" rInit q0)
    (h1 : HasMeth K CR "is_next" "Reader.is_next" rIs q1)
    (h2 : HasMeth K CR "take" "Reader.take" rTake q2)
    (h3 : HasMeth K CR "all_statements" "Reader.all_statements" rAll q3)
    (h4 : HasMeth K CR "statement" "Reader.statement" rStm q4)
    (h5 : HasMeth K CR "ended" "Reader.ended" rEnd q5)
    (h6 : HasMeth K CR "expression" "Reader.expression" rExp q6)
    (h7 : HasMeth K CR "row" "Reader.row" rRow q7)
    (h8 : HasMeth K CR "has_operator" "Reader.has_operator" rHas q8)
    (h9 : HasMeth K CR "operand" "Reader.operand" rOpd q9)
    (h10 : HasMeth K CR "step_in" "Reader.step_in" rStep q10)
    (h11 : HasMeth K CR "call" "Reader.call" rCall q11)
    (j0 : HasMeth K CS "__str__" "Script.__str__" cStr p0)
    (j1 : HasMeth K CS "__eq__" "Script.__eq__" cEq p1)
    (j2 : HasMeth K CS "__len__" "Script.__len__" cLen p2)
    (j3 : HasMeth K CS "__contains__" "Script.__contains__" cIn p3)
    (j4 : HasMeth K CS "call_words" "Script.call_words" cWords p4)
    (e0 : HasDef K "end_of_row" sEor d0)
    (e1 : HasDef K "number_token" sNum d1)
    (e2 : HasDef K "word_token" sWrd d2)
    (e3 : HasDef K "text_token" sTxt d3)
    (e4 : HasDef K "sign_token" sSgn d4)
    (e5 : HasDef K "token_at" sTat d5)
    (e6 : HasDef K "tokens_of" sTok d6)
    (e7 : HasDef K "expression_text" sExT d7)
    (e8 : HasDef K "statement_lines" sStL d8)
    (e9 : HasDef K "block_lines" sBlL d9)
    (e10 : HasDef K "calls_in" sCi d10)
    (e11 : HasDef K "calls_in_block" sCb d11)
    (e12 : HasDef K "_law_mixed" sMix d12)
    (e13 : HasDef K "_law_draw" sDrw d13)
    (e14 : HasDef K "_law_state" sSta d14)
    (e15 : HasDef K "_law_word" sWd d15)
    (e16 : HasDef K "_law_text" sTex d16)
    (e17 : HasDef K "_law_operand" sOpe d17)
    (e18 : HasDef K "_law_space" sSpc d18)
    (e19 : HasDef K "law" sLaw d19)
    (z0 : PySem.W.nsIn K mainGlobals "len" = some none)
    (z1 : PySem.W.nsIn K mainGlobals "int" = some none)
    (z2 : PySem.W.nsIn K mainGlobals "range" = some none)
    (z3 : PySem.W.nsIn K mainGlobals "isinstance" = some none)
    (z4 : PySem.W.nsIn K mainGlobals "str" = some none)
    (z5 : PySem.W.nsIn K mainGlobals "list" = some none)
    (z6 : PySem.W.nsIn K mainGlobals "tuple" = some none)
    (gLe : PySem.W.nsIn K mainGlobals "LETTERS" = some (some uLe)) (rLe : RelV (.str LET) uLe)
    (gDi : PySem.W.nsIn K mainGlobals "DIGITS" = some (some uDi)) (rDi : RelV (.str DIG) uDi)
    (gWs : PySem.W.nsIn K mainGlobals "WORD_SIGNS" = some (some uWs)) (rWs : RelV (.str WSG) uWs)
    (gBl : PySem.W.nsIn K mainGlobals "BLANKS" = some (some uBl)) (rBl : RelV (.str BLK) uBl)
    (gMd : PySem.W.nsIn K mainGlobals "MOST_DIGITS" = some (some uMd)) (rMd : RelV (.int 18) uMd)
    (gLs : PySem.W.nsIn K mainGlobals "LONGEST_SCRIPT" = some (some uLs)) (rLs : RelV (.int 2000) uLs)
    (gMn : PySem.W.nsIn K mainGlobals "MOST_NESTED" = some (some uMn)) (rMn : RelV (.int 12) uMn)
    (gK : PySem.W.nsIn K mainGlobals "KEYWORDS" = some (some (.ref pK))) (gS : PySem.W.nsIn K mainGlobals "SIGNS" = some (some (.ref pS))) (gG : PySem.W.nsIn K mainGlobals "GROUPS" = some (some (.ref pG))) (gA : PySem.W.nsIn K mainGlobals "ARGUMENTS" = some (some (.ref pA)))
    (lG : K.lookup pG = some ⟨.type "tuple", odG, .seq #[.ref g0, .ref g1, .ref g2, .ref g3, .ref g4] nG, slG⟩) (lA : K.lookup pA = some ⟨.type "dict", none, .dict es nA, #[]⟩) (litA : PySem.W.KeysLit w.params es.toList) (lowA : (pA == sysModules) = false)
    (nA0 : PySem.W.nsIn K pA "find" = some (some (.ref a0)))
    (nA1 : PySem.W.nsIn K pA "written" = some (some (.ref a1)))
    (nA2 : PySem.W.nsIn K pA "size" = some (some (.ref a2)))
    (nA3 : PySem.W.nsIn K pA "not" = some (some (.ref a3)))
    (tK : TupK K pK (KWS.map V.str))
    (tS : TupK K pS (SGS.map V.str))
    (tG0 : TupK K g0 ((GRS.getD 0 []).map V.str))
    (tG1 : TupK K g1 ((GRS.getD 1 []).map V.str))
    (tG2 : TupK K g2 ((GRS.getD 2 []).map V.str))
    (tG3 : TupK K g3 ((GRS.getD 3 []).map V.str))
    (tG4 : TupK K g4 ((GRS.getD 4 []).map V.str))
    (tA0 : TupK K a0 [.str "text"])
    (tA1 : TupK K a1 [.str "number"])
    (tA2 : TupK K a2 [.str "text or list"])
    (tA3 : TupK K a3 [.str "any"])
    : ∃ fd : FuncData, (∀ (s : Shared) (u : Value), BindsTo s fd ⟨[u], []⟩ [("_law_script", u)]) ∧ ∀ base : Heap, K.In base → base.Ns mainGlobals mg → FnOk l.prog w K mg base CX0 22 fa fd ["_law_script"] (spLaw K) := by
  have e := hfa.symm.trans (PySem.W.mg_of X G e19.g)
  cases e
  have zLen : mg "len" = none := PySem.W.mg_none_of X G z0
  have zInt : mg "int" = none := PySem.W.mg_none_of X G z1
  have zRng : mg "range" = none := PySem.W.mg_none_of X G z2
  have zIsi : mg "isinstance" = none := PySem.W.mg_none_of X G z3
  have zStr : mg "str" = none := PySem.W.mg_none_of X G z4
  have zLst : mg "list" = none := PySem.W.mg_none_of X G z5
  have zTup : mg "tuple" = none := PySem.W.mg_none_of X G z6
  obtain ⟨clR, mkR, kpR⟩ := clsB_of cb1
  obtain ⟨clS, mkS', kpS⟩ := clsB_of cb2
  have c := rdB_of clR rb
  obtain ⟨sC, lvi, nS⟩ := scB_of clS sb
  have mC : mg "Reader" = some (.ref CR) := PySem.W.mg_of X G gC
  have mS : mg "Script" = some (.ref CS) := PySem.W.mg_of X G gD
  have G1 : Gs mg := ⟨zLen, zInt, zRng, ⟨_, PySem.W.mg_of X G gLe, rLe⟩, ⟨_, PySem.W.mg_of X G gDi, rDi⟩, ⟨_, PySem.W.mg_of X G gWs, rWs⟩, ⟨_, PySem.W.mg_of X G gBl, rBl⟩, ⟨_, PySem.W.mg_of X G gMd, rMd⟩, ⟨_, PySem.W.mg_of X G gLs, rLs⟩⟩
  have G2 : Gt K mg pK pS := ⟨G1, PySem.W.mg_of X G gK, tK.sq, PySem.W.mg_of X G gS, tS.sq⟩
  have G3 : Gr K mg pG [g0, g1, g2, g3, g4] := ⟨PySem.W.mg_of X G gG, zLen, rfl, fun H => .inr ⟨_, #[.ref g0, .ref g1, .ref g2, .ref g3, .ref g4], nG, lG, rfl, rfl, (show 5 ≤ sizeLine by decide), .cons rfl (.cons rfl (.cons rfl (.cons rfl (.cons rfl .nil))))⟩, fun H i a hi => by
    match i, hi with
    | 0, hi => cases hi; exact ⟨_, rfl, tG0.sq H⟩
    | 1, hi => cases hi; exact ⟨_, rfl, tG1.sq H⟩
    | 2, hi => cases hi; exact ⟨_, rfl, tG2.sq H⟩
    | 3, hi => cases hi; exact ⟨_, rfl, tG3.sq H⟩
    | 4, hi => cases hi; exact ⟨_, rfl, tG4.sq H⟩
    | n + 5, hi => cases hi⟩
  have AR : Ar K w mg pA es nA := ⟨PySem.W.mg_of X G gA, ⟨lA, litA, lowA⟩, fun z hz => by
    have q : z = "find" ∨ z = "written" ∨ z = "size" ∨ z = "not" := by simpa [callW] using hz
    rcases q with rfl | rfl | rfl | rfl
    · exact ⟨_, _, nA0, tA0.sq⟩
    · exact ⟨_, _, nA1, tA1.sq⟩
    · exact ⟨_, _, nA2, tA2.sq⟩
    · exact ⟨_, _, nA3, tA3.sq⟩⟩
  have gN : ∃ u, mg "MOST_NESTED" = some u ∧ RelV (.int 12) u := ⟨_, PySem.W.mg_of X G gMn, rMn⟩
  obtain ⟨g0', k0, fd0, F0⟩ := e0
  have b0 := F0.binds (ps := ["text", "at", "signs"]) fun _ _ _ _ _ _ us hl => match us, hl with | [_, _, _], _ => rfl
  have m0 := PySem.W.mg_of X G g0'
  obtain ⟨g1', k1, fd1, F1⟩ := e1
  have b1 := F1.binds (ps := ["text", "at"]) fun _ _ _ _ _ _ us hl => match us, hl with | [_, _], _ => rfl
  have m1 := PySem.W.mg_of X G g1'
  obtain ⟨g2', k2, fd2, F2⟩ := e2
  have b2 := F2.binds (ps := ["text", "at"]) fun _ _ _ _ _ _ us hl => match us, hl with | [_, _], _ => rfl
  have m2 := PySem.W.mg_of X G g2'
  obtain ⟨g3', k3, fd3, F3⟩ := e3
  have b3 := F3.binds (ps := ["text", "at"]) fun _ _ _ _ _ _ us hl => match us, hl with | [_, _], _ => rfl
  have m3 := PySem.W.mg_of X G g3'
  obtain ⟨g4', k4, fd4, F4⟩ := e4
  have b4 := F4.binds (ps := ["text", "at"]) fun _ _ _ _ _ _ us hl => match us, hl with | [_, _], _ => rfl
  have m4 := PySem.W.mg_of X G g4'
  obtain ⟨g5', k5, fd5, F5⟩ := e5
  have b5 := F5.binds (ps := ["text", "at"]) fun _ _ _ _ _ _ us hl => match us, hl with | [_, _], _ => rfl
  have m5 := PySem.W.mg_of X G g5'
  obtain ⟨g6', k6, fd6, F6⟩ := e6
  have b6 := F6.binds (ps := ["text"]) fun _ _ _ _ _ _ us hl => match us, hl with | [_], _ => rfl
  have m6 := PySem.W.mg_of X G g6'
  obtain ⟨g7', k7, fd7, F7⟩ := e7
  have b7 := F7.binds (ps := ["expression"]) fun _ _ _ _ _ _ us hl => match us, hl with | [_], _ => rfl
  have m7 := PySem.W.mg_of X G g7'
  obtain ⟨g8', k8, fd8, F8⟩ := e8
  have b8 := F8.binds (ps := ["statement"]) fun _ _ _ _ _ _ us hl => match us, hl with | [_], _ => rfl
  have m8 := PySem.W.mg_of X G g8'
  obtain ⟨g9', k9, fd9, F9⟩ := e9
  have b9 := F9.binds (ps := ["statements"]) fun _ _ _ _ _ _ us hl => match us, hl with | [_], _ => rfl
  have m9 := PySem.W.mg_of X G g9'
  obtain ⟨g10', k10, fd10, F10⟩ := e10
  have b10 := F10.binds (ps := ["expression"]) fun _ _ _ _ _ _ us hl => match us, hl with | [_], _ => rfl
  have m10 := PySem.W.mg_of X G g10'
  obtain ⟨g11', k11, fd11, F11⟩ := e11
  have b11 := F11.binds (ps := ["statements"]) fun _ _ _ _ _ _ us hl => match us, hl with | [_], _ => rfl
  have m11 := PySem.W.mg_of X G g11'
  obtain ⟨g12', k12, fd12, F12⟩ := e12
  have b12 := F12.binds (ps := ["_law_number"]) fun _ _ _ _ _ _ us hl => match us, hl with | [_], _ => rfl
  have m12 := PySem.W.mg_of X G g12'
  obtain ⟨g13', k13, fd13, F13⟩ := e13
  have b13 := F13.binds (ps := ["_law_state_here", "_law_many"]) fun _ _ _ _ _ _ us hl => match us, hl with | [_, _], _ => rfl
  have m13 := PySem.W.mg_of X G g13'
  obtain ⟨g14', k14, fd14, F14⟩ := e14
  have b14 := F14.binds (ps := ["_law_script"]) fun _ _ _ _ _ _ us hl => match us, hl with | [_], _ => rfl
  have m14 := PySem.W.mg_of X G g14'
  obtain ⟨g15', k15, fd15, F15⟩ := e15
  have b15 := F15.binds (ps := ["_law_state_here"]) fun _ _ _ _ _ _ us hl => match us, hl with | [_], _ => rfl
  have m15 := PySem.W.mg_of X G g15'
  obtain ⟨g16', k16, fd16, F16⟩ := e16
  have b16 := F16.binds (ps := ["_law_state_here"]) fun _ _ _ _ _ _ us hl => match us, hl with | [_], _ => rfl
  have m16 := PySem.W.mg_of X G g16'
  obtain ⟨g17', k17, fd17, F17⟩ := e17
  have b17 := F17.binds (ps := ["_law_state_here"]) fun _ _ _ _ _ _ us hl => match us, hl with | [_], _ => rfl
  have m17 := PySem.W.mg_of X G g17'
  obtain ⟨g18', k18, fd18, F18⟩ := e18
  have b18 := F18.binds (ps := ["_law_state_here", "_law_least"]) fun _ _ _ _ _ _ us hl => match us, hl with | [_, _], _ => rfl
  have m18 := PySem.W.mg_of X G g18'
  obtain ⟨g19', k19, fd19, F19⟩ := e19
  have b19 := F19.binds (ps := ["_law_script"]) fun _ _ _ _ _ _ us hl => match us, hl with | [_], _ => rfl
  have m19 := PySem.W.mg_of X G g19'
  have R0 := h0.m
  obtain ⟨ar0, tr0, gr0, H0⟩ := h0
  have C0 := H0.binds (ps := ["self", "text"]) fun _ _ _ _ _ _ us hl => match us, hl with | [_, _], _ => rfl
  have R1 := h1.m
  obtain ⟨ar1, tr1, gr1, H1⟩ := h1
  have C1 := H1.binds (ps := ["self", "sign"]) fun _ _ _ _ _ _ us hl => match us, hl with | [_, _], _ => rfl
  have R2 := h2.m
  obtain ⟨ar2, tr2, gr2, H2⟩ := h2
  have C2 := H2.binds (ps := ["self", "sign"]) fun _ _ _ _ _ _ us hl => match us, hl with | [_, _], _ => rfl
  have R3 := h3.m
  obtain ⟨ar3, tr3, gr3, H3⟩ := h3
  have C3 := H3.binds (ps := ["self"]) fun _ _ _ _ _ _ us hl => match us, hl with | [_], _ => rfl
  have R4 := h4.m
  obtain ⟨ar4, tr4, gr4, H4⟩ := h4
  have C4 := H4.binds (ps := ["self", "depth"]) fun _ _ _ _ _ _ us hl => match us, hl with | [_, _], _ => rfl
  have R5 := h5.m
  obtain ⟨ar5, tr5, gr5, H5⟩ := h5
  have C5 := H5.binds (ps := ["self", "statement"]) fun _ _ _ _ _ _ us hl => match us, hl with | [_, _], _ => rfl
  have R6 := h6.m
  obtain ⟨ar6, tr6, gr6, H6⟩ := h6
  have C6 := H6.binds (ps := ["self", "depth"]) fun _ _ _ _ _ _ us hl => match us, hl with | [_, _], _ => rfl
  have R7 := h7.m
  obtain ⟨ar7, tr7, gr7, H7⟩ := h7
  have C7 := H7.binds (ps := ["self", "group", "depth"]) fun _ _ _ _ _ _ us hl => match us, hl with | [_, _, _], _ => rfl
  have R8 := h8.m
  obtain ⟨ar8, tr8, gr8, H8⟩ := h8
  have C8 := H8.binds (ps := ["self", "group"]) fun _ _ _ _ _ _ us hl => match us, hl with | [_, _], _ => rfl
  have R9 := h9.m
  obtain ⟨ar9, tr9, gr9, H9⟩ := h9
  have C9 := H9.binds (ps := ["self", "depth"]) fun _ _ _ _ _ _ us hl => match us, hl with | [_, _], _ => rfl
  have R10 := h10.m
  obtain ⟨ar10, tr10, gr10, H10⟩ := h10
  have C10 := H10.binds (ps := ["self", "depth"]) fun _ _ _ _ _ _ us hl => match us, hl with | [_, _], _ => rfl
  have R11 := h11.m
  obtain ⟨ar11, tr11, gr11, H11⟩ := h11
  have C11 := H11.binds (ps := ["self", "word", "at", "depth"]) fun _ _ _ _ _ _ us hl => match us, hl with | [_, _, _, _], _ => rfl
  have S0 := j0.m
  obtain ⟨as0, ty0, gs0, J0⟩ := j0
  have D0 := J0.binds (ps := ["self"]) fun _ _ _ _ _ _ us hl => match us, hl with | [_], _ => rfl
  have S1 := j1.m
  obtain ⟨as1, ty1, gs1, J1⟩ := j1
  have D1 := J1.binds (ps := ["self", "other"]) fun _ _ _ _ _ _ us hl => match us, hl with | [_, _], _ => rfl
  have S2 := j2.m
  obtain ⟨as2, ty2, gs2, J2⟩ := j2
  have D2 := J2.binds (ps := ["self"]) fun _ _ _ _ _ _ us hl => match us, hl with | [_], _ => rfl
  have S3 := j3.m
  obtain ⟨as3, ty3, gs3, J3⟩ := j3
  have D3 := J3.binds (ps := ["self", "word"]) fun _ _ _ _ _ _ us hl => match us, hl with | [_, _], _ => rfl
  have S4 := j4.m
  obtain ⟨as4, ty4, gs4, J4⟩ := j4
  have D4 := J4.binds (ps := ["self"]) fun _ _ _ _ _ _ us hl => match us, hl with | [_], _ => rfl
  obtain ⟨rRd, sRd, fdRd, FRd⟩ := hS
  have bRd := FRd.binds (ps := ["text"]) fun _ _ _ _ _ _ us hl => match us, hl with | [_], _ => rfl
  obtain ⟨aI, tyI, ⟨fdI, FI⟩, eI⟩ := iI
  refine ⟨fd19, fun s v => ?_, fun base IB NB => ?_⟩
  · obtain ⟨⟨oc, od, kV, doc, pm, an, cdv, ct, osl, rfl, _⟩, _⟩ := F19
    exact .of_eq (fd := PySem.W.fnOf "law" "law" (defArgs sLaw) (defBody sLaw) (defScope sLaw) .none kV doc pm an cdv ct) rfl
  have EO : Df l.prog w K mg base "end_of_row" ["text", "at", "signs"] 1 spEor := ⟨_, _, m0, k0, ok_eor F0 zLen, b0⟩
  have NU : Df l.prog w K mg base "number_token" ["text", "at"] 2 spNum := ⟨_, _, m1, k1, ok_num F1 G1 EO, b1⟩
  have WR : Df l.prog w K mg base "word_token" ["text", "at"] 2 spWrd := ⟨_, _, m2, k2, ok_wrd F2 G2 EO, b2⟩
  have TX : Df l.prog w K mg base "text_token" ["text", "at"] 1 spTxt := ⟨_, _, m3, k3, ok_txt F3 G2, b3⟩
  have SG : Df l.prog w K mg base "sign_token" ["text", "at"] 1 spSgn := ⟨_, _, m4, k4, ok_sgn F4 G2, b4⟩
  have TA : Df l.prog w K mg base "token_at" ["text", "at"] 3 spTat := ⟨_, _, m5, k5, ok_tat F5 G2 NU WR TX SG, b5⟩
  have TO : Df l.prog w K mg base "tokens_of" ["text"] 4 spTok := ⟨_, _, m6, k6, ok_tok F6 G1 EO TA, b6⟩
  have EX1 : Df l.prog w K mg base "expression_text" ["expression"] 2 (spX K X1) := ⟨_, _, m7, k7, ok_ex1 F7 zStr ⟨_, _, m7, k7, ok_ex0 F7 zStr, b7⟩, b7⟩
  have SL : Df l.prog w K mg base "statement_lines" ["statement"] 3 (spSL K) := ⟨_, _, m8, k8, ok_stl F8 EX1, b8⟩
  have BL : Df l.prog w K mg base "block_lines" ["statements"] 4 (spBL K) := ⟨_, _, m9, k9, ok_bll F9 SL, b9⟩
  have CI : Df l.prog w K mg base "calls_in" ["expression"] 2 (spC1 K) := ⟨_, _, m10, k10, ok_ci1 F10 ⟨_, _, m10, k10, ok_ci0 F10, b10⟩, b10⟩
  have CB : Df l.prog w K mg base "calls_in_block" ["statements"] 3 (spB1 K) := ⟨_, _, m11, k11, ok_cb1 F11 CI ⟨_, _, m11, k11, ok_cb0 F11, b11⟩, b11⟩
  have MX : Df l.prog w K mg base "_law_mixed" ["_law_number"] 1 spMix := ⟨_, _, m12, k12, ok_mix F12, b12⟩
  have DRW : Df l.prog w K mg base "_law_draw" ["_law_state_here", "_law_many"] 2 spDrw := ⟨_, _, m13, k13, ok_drw F13 zLen MX, b13⟩
  have STA : Df l.prog w K mg base "_law_state" ["_law_script"] 1 (spSta K) := ⟨_, _, m14, k14, ok_sta F14 zLst, b14⟩
  have WD : Df l.prog w K mg base "_law_word" ["_law_state_here"] 3 spWd := ⟨_, _, m15, k15, ok_wd F15 zRng DRW, b15⟩
  have TEX : Df l.prog w K mg base "_law_text" ["_law_state_here"] 3 spTex := ⟨_, _, m16, k16, ok_tex F16 zRng zLen DRW, b16⟩
  have OPE : Df l.prog w K mg base "_law_operand" ["_law_state_here"] 4 spOpe := ⟨_, _, m17, k17, ok_ope F17 zStr DRW TEX WD, b17⟩
  have SPC : Df l.prog w K mg base "_law_space" ["_law_state_here", "_law_least"] 3 spSpc := ⟨_, _, m18, k18, ok_spc F18 zRng DRW, b18⟩
  have IS : MD l.prog w K mg base CR "is_next" ["self", "sign"] 1 (spIs CR) := ⟨_, _, R1, ok_is H1 c, C1⟩
  have TK : MD l.prog w K mg base CR "take" ["self", "sign"] 2 (spTake CR) := ⟨_, _, R2, ok_take H2 c IS, C2⟩
  have HAS : MD l.prog w K mg base CR "has_operator" ["self", "group"] 1 (spHas CR) := ⟨_, _, R8, ok_has H8 c G3, C8⟩
  have STP : MD l.prog w K mg base CR "step_in" ["self", "depth"] 3 (spStep CR 1) := ⟨_, _, R10, ok_step (by decide) H10 c gN TK, C10⟩
  have END : MD l.prog w K mg base CR "ended" ["self", "statement"] 3 (spEnd CR) := ⟨_, _, R5, ok_end H5 c TK, C5⟩
  have O0 : MD l.prog w K mg base CR "operand" ["self", "depth"] 2 (spPar K CR [.int 1] PO0) := ⟨_, _, R9, ok_opd0 H9 c IS, C9⟩
  have W05 : MD l.prog w K mg base CR "row" ["self", "group", "depth"] 3 (spPar K CR [.int 5, .int 1] PO0) := ⟨_, _, R7, ok_row5 H7 c G3 O0, C7⟩
  have W04 : MD l.prog w K mg base CR "row" ["self", "group", "depth"] 4 (spPar K CR [.int ((4 : Nat) : Int), .int 1] PO0) := ⟨_, _, R7, ok_rowg (g := 4) (by decide) H7 c G3 (by decide) HAS W05 (fun _ _ _ _ h => h.nx), C7⟩
  have W03 : MD l.prog w K mg base CR "row" ["self", "group", "depth"] 5 (spPar K CR [.int ((3 : Nat) : Int), .int 1] PO0) := ⟨_, _, R7, ok_rowg (g := 3) (by decide) H7 c G3 (by decide) HAS W04 (fun _ _ _ _ h => h.nx), C7⟩
  have W02 : MD l.prog w K mg base CR "row" ["self", "group", "depth"] 6 (spPar K CR [.int ((2 : Nat) : Int), .int 1] PO0) := ⟨_, _, R7, ok_rowg (g := 2) (by decide) H7 c G3 (by decide) HAS W03 (fun _ _ _ _ h => h.nx), C7⟩
  have W01 : MD l.prog w K mg base CR "row" ["self", "group", "depth"] 7 (spPar K CR [.int ((1 : Nat) : Int), .int 1] PO0) := ⟨_, _, R7, ok_rowg (g := 1) (by decide) H7 c G3 (by decide) HAS W02 (fun _ _ _ _ h => h.nx), C7⟩
  have W00 : MD l.prog w K mg base CR "row" ["self", "group", "depth"] 8 (spPar K CR [.int ((0 : Nat) : Int), .int 1] PO0) := ⟨_, _, R7, ok_rowg (g := 0) (by decide) H7 c G3 (by decide) HAS W01 (fun _ _ _ _ h => h.nx), C7⟩
  have E0' : MD l.prog w K mg base CR "expression" ["self", "depth"] 9 (spPar K CR [.int 1] PO0) := ⟨_, _, R6, ok_exp H6 c W00, C6⟩
  have CA : MD l.prog w K mg base CR "call" ["self", "word", "at", "depth"] 10 (spCallA K CR 1 PO0) := ⟨_, _, R11, callA fun s a => ok_call (by decide) H11 c AR zLen zTup IS TK STP E0' kd3_0 (fun _ _ _ _ => nl_0), C11⟩
  have O1 : MD l.prog w K mg base CR "operand" ["self", "depth"] 11 (spPar K CR [.int 0] PO1) := ⟨_, _, R9, ok_opd1 (dep := 0) (by decide) H9 c IS CA, C9⟩
  have W15 : MD l.prog w K mg base CR "row" ["self", "group", "depth"] 12 (spPar K CR [.int 5, .int 0] PO1) := ⟨_, _, R7, ok_row5 H7 c G3 O1, C7⟩
  have W14 : MD l.prog w K mg base CR "row" ["self", "group", "depth"] 13 (spPar K CR [.int ((4 : Nat) : Int), .int 0] PO1) := ⟨_, _, R7, ok_rowg (g := 4) (by decide) H7 c G3 (by decide) HAS W15 (fun _ _ _ _ h => h.nx), C7⟩
  have W13 : MD l.prog w K mg base CR "row" ["self", "group", "depth"] 14 (spPar K CR [.int ((3 : Nat) : Int), .int 0] PO1) := ⟨_, _, R7, ok_rowg (g := 3) (by decide) H7 c G3 (by decide) HAS W14 (fun _ _ _ _ h => h.nx), C7⟩
  have W12 : MD l.prog w K mg base CR "row" ["self", "group", "depth"] 15 (spPar K CR [.int ((2 : Nat) : Int), .int 0] PO1) := ⟨_, _, R7, ok_rowg (g := 2) (by decide) H7 c G3 (by decide) HAS W13 (fun _ _ _ _ h => h.nx), C7⟩
  have W11 : MD l.prog w K mg base CR "row" ["self", "group", "depth"] 16 (spPar K CR [.int ((1 : Nat) : Int), .int 0] PO1) := ⟨_, _, R7, ok_rowg (g := 1) (by decide) H7 c G3 (by decide) HAS W12 (fun _ _ _ _ h => h.nx), C7⟩
  have W10 : MD l.prog w K mg base CR "row" ["self", "group", "depth"] 17 (spPar K CR [.int ((0 : Nat) : Int), .int 0] PO1) := ⟨_, _, R7, ok_rowg (g := 0) (by decide) H7 c G3 (by decide) HAS W11 (fun _ _ _ _ h => h.nx), C7⟩
  have E1' : MD l.prog w K mg base CR "expression" ["self", "depth"] 18 (spPar K CR [.int 0] PO1) := ⟨_, _, R6, ok_exp H6 c W10, C6⟩
  have ST : MD l.prog w K mg base CR "statement" ["self", "depth"] 19 (spPar K CR [.int 0] (PS PO1)) := ⟨_, _, R4, ok_stm (by decide) H4 c IS TK END E1', C4⟩
  have AL : MD l.prog w K mg base CR "all_statements" ["self"] 20 (spAll K CR PO1) := ⟨_, _, R3, ok_all H3 c zTup ST (fun _ _ _ _ => nl_1), C3⟩
  have MR : Mk1 l.prog w K mg base CR "Reader" ["self", "text"] 5 (spRI CR) := ⟨⟨_, _, ⟨mkR, R0.at_, R0.fn, kpR⟩, ok_ri H0 c TO, C0⟩, mC⟩
  have fnI : PySem.W.isFn K (.ref fI) = true := by
    unfold PySem.W.isFn
    rw [tyI]
    rfl
  have MS : Mk1 l.prog w K mg base CS "Script" ["self", "statements"] 1 (spSI K CS) := ⟨⟨_, _, ⟨mkS', aI, fnI, kpS⟩, ok_si FI sC zTup, init_b2 FI⟩, mS⟩
  have MD' : Mk1D l.prog w K mg base CS "Script" ["self", "statements"] 1 (spSI K CS) := ⟨⟨_, _, _, ⟨mkS', aI, fnI, kpS⟩, ok_si FI sC zTup, init_b1 FI, eI⟩, mS⟩
  have GW : MG l.prog w K mg base CS "call_words" ["self"] 4 (spGW K CS) := ⟨_, _, S4, gw_ok J4 sC CB, D4⟩
  have M : ScM l.prog w K mg base CS := ⟨sC, lvi, nS, mS, ⟨_, _, S1.at_, S1.fn, ok_eq J1 sC lvi zIsi mS, D1⟩, ⟨_, _, S2.at_, ty2, ok_len J2 sC zLen, D2⟩, ⟨_, _, S0.at_, S0.fn, ok_str J0 sC BL, D0⟩, ⟨_, _, S3.at_, ty3, ok_in J3 sC zIsi zStr CB, D3⟩, ⟨_, _, _, _, rRd, sRd, ok_read (k := 20) (by decide) FRd c MR AL MS, bRd⟩⟩
  exact ok_law F19 zIsi zLen zStr zLst M MD' GW STA OPE DRW WD SPC
end
theorem walk {l : PySem.W.OpenLaw} {q : Program} {loose : List Str} {XP : (Str → Option Value) → Heap → Prop} {YP : World → Heap → Prop} {d : DefRec} {K : Params → PySem.W.Frag} (hn : l.most = some 63) (hdf : d.params.defaults = [])
    (hY : ∀ (w : World) (h : Heap), YP w h → (K w.params).In h)
    (F : ∀ (w : World) (mg : Str → Option Value) (fa : Addr) (h : Heap), (K w.params).In h → h.Ns mainGlobals mg → mg d.name = some (.ref fa) →
      ∃ fd : FuncData, (∀ (s : Shared) (u : Value), BindsTo s fd ⟨[u], []⟩ [("_law_script", u)]) ∧ ∀ base : Heap, (K w.params).In base → base.Ns mainGlobals mg → FnOk l.prog w (K w.params) mg base CX0 22 fa fd ["_law_script"] (spLaw (K w.params))) :
    PySem.W.WalkO q loose XP YP l.row.toRowW d [] (fun f vs => PySem.call f vs) :=
  L2.walk_ofK (n := 63) (k := 22) (x := "_law_script") (CX := CX0) (sp := spLaw) hn (by decide) hdf ⟨rfl, by decide, by decide⟩ hY F (fun K H a ns hl _ hS => ⟨a, ns, rfl, hS, hl, fun _ => rfl⟩) fun _ _ _ _ z => z.elim
end K70
open PySem PySem.W PyProof.Rows in
set_option maxRecDepth 100000 in
set_option maxHeartbeats 0 in
theorem PySem.Challenge.cw_maskededits_k70_read_simple_statements_holds : PySem.Challenge.rw_maskededits_k70_read_simple_statements.Holds := by
  w_on; o_law; k_head; (case hw => w_witness2)
  k_fill
  refine K70.walk (l := PySem.Challenge.rw_maskededits_k70_read_simple_statements) rfl rfl (fun w h Y => PySem.W.kIn_of Y) ?F
  case F =>
    intro w mg fa h KX G hmg
    refine' K70.all_mk KX G hmg ?gC ?gD ?cb1 ?cb2 ?rb ?sb ?iI ?hS ?h0 ?h1 ?h2 ?h3 ?h4 ?h5 ?h6 ?h7 ?h8 ?h9 ?h10 ?h11 ?j0 ?j1 ?j2 ?j3 ?j4 ?e0 ?e1 ?e2 ?e3 ?e4 ?e5 ?e6 ?e7 ?e8 ?e9 ?e10 ?e11 ?e12 ?e13 ?e14 ?e15 ?e16 ?e17 ?e18 ?e19 ?z0 ?z1 ?z2 ?z3 ?z4 ?z5 ?z6 ?gLe ?rLe ?gDi ?rDi ?gWs ?rWs ?gBl ?rBl ?gMd ?rMd ?gLs ?rLs ?gMn ?rMn ?gK ?gS ?gG ?gA ?lG ?lA ?litA ?lowA ?nA0 ?nA1 ?nA2 ?nA3 ?tK ?tS ?tG0 ?tG1 ?tG2 ?tG3 ?tG4 ?tA0 ?tA1 ?tA2 ?tA3
    (case gC => k_is)
    (case gD => k_is)
    (case cb1 => first | kernel_rfl | k_is)
    (case cb2 => first | kernel_rfl | k_is)
    (case rb => first | kernel_rfl | k_is)
    (case sb => first | kernel_rfl | k_is)
    (case iI => refine' K70.hasInit ?a ?ty ?lf ?cf ?kf ?lD ?lt; (case a => k_is); (case ty => k_is); (case lf => k_is); (case cf => k_is); (case kf => k_is); (case lD => k_is); (case lt => k_is))
    (case hS => refine' K70.hasStat ?rd ?ga ?fc ?rc ?lf ?cf ?kf; (case rd => k_is); (case ga => k_is); (case fc => k_is); (case rc => k_is); (case lf => k_is); (case cf => k_is); (case kf => k_is))
    (case h0 => refine' K70.hasMeth ?a ?t ?lf ?cf ?kf; (case a => k_is); (case t => k_is); (case lf => k_is); (case cf => k_is); (case kf => k_is))
    (case h1 => refine' K70.hasMeth ?a ?t ?lf ?cf ?kf; (case a => k_is); (case t => k_is); (case lf => k_is); (case cf => k_is); (case kf => k_is))
    (case h2 => refine' K70.hasMeth ?a ?t ?lf ?cf ?kf; (case a => k_is); (case t => k_is); (case lf => k_is); (case cf => k_is); (case kf => k_is))
    (case h3 => refine' K70.hasMeth ?a ?t ?lf ?cf ?kf; (case a => k_is); (case t => k_is); (case lf => k_is); (case cf => k_is); (case kf => k_is))
    (case h4 => refine' K70.hasMeth ?a ?t ?lf ?cf ?kf; (case a => k_is); (case t => k_is); (case lf => k_is); (case cf => k_is); (case kf => k_is))
    (case h5 => refine' K70.hasMeth ?a ?t ?lf ?cf ?kf; (case a => k_is); (case t => k_is); (case lf => k_is); (case cf => k_is); (case kf => k_is))
    (case h6 => refine' K70.hasMeth ?a ?t ?lf ?cf ?kf; (case a => k_is); (case t => k_is); (case lf => k_is); (case cf => k_is); (case kf => k_is))
    (case h7 => refine' K70.hasMeth ?a ?t ?lf ?cf ?kf; (case a => k_is); (case t => k_is); (case lf => k_is); (case cf => k_is); (case kf => k_is))
    (case h8 => refine' K70.hasMeth ?a ?t ?lf ?cf ?kf; (case a => k_is); (case t => k_is); (case lf => k_is); (case cf => k_is); (case kf => k_is))
    (case h9 => refine' K70.hasMeth ?a ?t ?lf ?cf ?kf; (case a => k_is); (case t => k_is); (case lf => k_is); (case cf => k_is); (case kf => k_is))
    (case h10 => refine' K70.hasMeth ?a ?t ?lf ?cf ?kf; (case a => k_is); (case t => k_is); (case lf => k_is); (case cf => k_is); (case kf => k_is))
    (case h11 => refine' K70.hasMeth ?a ?t ?lf ?cf ?kf; (case a => k_is); (case t => k_is); (case lf => k_is); (case cf => k_is); (case kf => k_is))
    (case j0 => refine' K70.hasMeth ?a ?t ?lf ?cf ?kf; (case a => k_is); (case t => k_is); (case lf => k_is); (case cf => k_is); (case kf => k_is))
    (case j1 => refine' K70.hasMeth ?a ?t ?lf ?cf ?kf; (case a => k_is); (case t => k_is); (case lf => k_is); (case cf => k_is); (case kf => k_is))
    (case j2 => refine' K70.hasMeth ?a ?t ?lf ?cf ?kf; (case a => k_is); (case t => k_is); (case lf => k_is); (case cf => k_is); (case kf => k_is))
    (case j3 => refine' K70.hasMeth ?a ?t ?lf ?cf ?kf; (case a => k_is); (case t => k_is); (case lf => k_is); (case cf => k_is); (case kf => k_is))
    (case j4 => refine' K70.hasMeth ?a ?t ?lf ?cf ?kf; (case a => k_is); (case t => k_is); (case lf => k_is); (case cf => k_is); (case kf => k_is))
    (case e0 => refine' K70.hasDef ?g ?lf ?cf ?kf; (case g => k_is); (case lf => k_is); (case cf => k_is); (case kf => k_is))
    (case e1 => refine' K70.hasDef ?g ?lf ?cf ?kf; (case g => k_is); (case lf => k_is); (case cf => k_is); (case kf => k_is))
    (case e2 => refine' K70.hasDef ?g ?lf ?cf ?kf; (case g => k_is); (case lf => k_is); (case cf => k_is); (case kf => k_is))
    (case e3 => refine' K70.hasDef ?g ?lf ?cf ?kf; (case g => k_is); (case lf => k_is); (case cf => k_is); (case kf => k_is))
    (case e4 => refine' K70.hasDef ?g ?lf ?cf ?kf; (case g => k_is); (case lf => k_is); (case cf => k_is); (case kf => k_is))
    (case e5 => refine' K70.hasDef ?g ?lf ?cf ?kf; (case g => k_is); (case lf => k_is); (case cf => k_is); (case kf => k_is))
    (case e6 => refine' K70.hasDef ?g ?lf ?cf ?kf; (case g => k_is); (case lf => k_is); (case cf => k_is); (case kf => k_is))
    (case e7 => refine' K70.hasDef ?g ?lf ?cf ?kf; (case g => k_is); (case lf => k_is); (case cf => k_is); (case kf => k_is))
    (case e8 => refine' K70.hasDef ?g ?lf ?cf ?kf; (case g => k_is); (case lf => k_is); (case cf => k_is); (case kf => k_is))
    (case e9 => refine' K70.hasDef ?g ?lf ?cf ?kf; (case g => k_is); (case lf => k_is); (case cf => k_is); (case kf => k_is))
    (case e10 => refine' K70.hasDef ?g ?lf ?cf ?kf; (case g => k_is); (case lf => k_is); (case cf => k_is); (case kf => k_is))
    (case e11 => refine' K70.hasDef ?g ?lf ?cf ?kf; (case g => k_is); (case lf => k_is); (case cf => k_is); (case kf => k_is))
    (case e12 => refine' K70.hasDef ?g ?lf ?cf ?kf; (case g => k_is); (case lf => k_is); (case cf => k_is); (case kf => k_is))
    (case e13 => refine' K70.hasDef ?g ?lf ?cf ?kf; (case g => k_is); (case lf => k_is); (case cf => k_is); (case kf => k_is))
    (case e14 => refine' K70.hasDef ?g ?lf ?cf ?kf; (case g => k_is); (case lf => k_is); (case cf => k_is); (case kf => k_is))
    (case e15 => refine' K70.hasDef ?g ?lf ?cf ?kf; (case g => k_is); (case lf => k_is); (case cf => k_is); (case kf => k_is))
    (case e16 => refine' K70.hasDef ?g ?lf ?cf ?kf; (case g => k_is); (case lf => k_is); (case cf => k_is); (case kf => k_is))
    (case e17 => refine' K70.hasDef ?g ?lf ?cf ?kf; (case g => k_is); (case lf => k_is); (case cf => k_is); (case kf => k_is))
    (case e18 => refine' K70.hasDef ?g ?lf ?cf ?kf; (case g => k_is); (case lf => k_is); (case cf => k_is); (case kf => k_is))
    (case e19 => refine' K70.hasDef ?g ?lf ?cf ?kf; (case g => k_is); (case lf => k_is); (case cf => k_is); (case kf => k_is))
    (case z0 => k_is)
    (case z1 => k_is)
    (case z2 => k_is)
    (case z3 => k_is)
    (case z4 => k_is)
    (case z5 => k_is)
    (case z6 => k_is)
    (case gLe => k_is)
    (case gDi => k_is)
    (case gWs => k_is)
    (case gBl => k_is)
    (case gMd => k_is)
    (case gLs => k_is)
    (case gMn => k_is)
    (case rLe => exact ⟨_, rfl⟩)
    (case rDi => exact ⟨_, rfl⟩)
    (case rWs => exact ⟨_, rfl⟩)
    (case rBl => exact ⟨_, rfl⟩)
    (case rMd => exact ⟨_, rfl⟩)
    (case rLs => exact ⟨_, rfl⟩)
    (case rMn => exact ⟨_, rfl⟩)
    (case gK => k_is)
    (case gS => k_is)
    (case gG => k_is)
    (case gA => k_is)
    (case lG => k_is)
    (case lA => k_is)
    (case litA => (repeat' (first | exact trivial | refine' ⟨⟨_, _, rfl, rfl⟩, ?_⟩)))
    (case lowA => first | rfl | decide | kernel_rfl)
    (case nA0 => k_is)
    (case nA1 => k_is)
    (case nA2 => k_is)
    (case nA3 => k_is)
    (case tK => refine' K70.tupK ?lt ?v ?s; (case lt => k_is); (case v => (repeat' (first | exact .nil | refine' .cons ⟨_, rfl⟩ ?_))); (case s => decide))
    (case tS => refine' K70.tupK ?lt ?v ?s; (case lt => k_is); (case v => (repeat' (first | exact .nil | refine' .cons ⟨_, rfl⟩ ?_))); (case s => decide))
    (case tG0 => refine' K70.tupK ?lt ?v ?s; (case lt => k_is); (case v => (repeat' (first | exact .nil | refine' .cons ⟨_, rfl⟩ ?_))); (case s => decide))
    (case tG1 => refine' K70.tupK ?lt ?v ?s; (case lt => k_is); (case v => (repeat' (first | exact .nil | refine' .cons ⟨_, rfl⟩ ?_))); (case s => decide))
    (case tG2 => refine' K70.tupK ?lt ?v ?s; (case lt => k_is); (case v => (repeat' (first | exact .nil | refine' .cons ⟨_, rfl⟩ ?_))); (case s => decide))
    (case tG3 => refine' K70.tupK ?lt ?v ?s; (case lt => k_is); (case v => (repeat' (first | exact .nil | refine' .cons ⟨_, rfl⟩ ?_))); (case s => decide))
    (case tG4 => refine' K70.tupK ?lt ?v ?s; (case lt => k_is); (case v => (repeat' (first | exact .nil | refine' .cons ⟨_, rfl⟩ ?_))); (case s => decide))
    (case tA0 => refine' K70.tupK ?lt ?v ?s; (case lt => k_is); (case v => (repeat' (first | exact .nil | refine' .cons ⟨_, rfl⟩ ?_))); (case s => decide))
    (case tA1 => refine' K70.tupK ?lt ?v ?s; (case lt => k_is); (case v => (repeat' (first | exact .nil | refine' .cons ⟨_, rfl⟩ ?_))); (case s => decide))
    (case tA2 => refine' K70.tupK ?lt ?v ?s; (case lt => k_is); (case v => (repeat' (first | exact .nil | refine' .cons ⟨_, rfl⟩ ?_))); (case s => decide))
    (case tA3 => refine' K70.tupK ?lt ?v ?s; (case lt => k_is); (case v => (repeat' (first | exact .nil | refine' .cons ⟨_, rfl⟩ ?_))); (case s => decide))
