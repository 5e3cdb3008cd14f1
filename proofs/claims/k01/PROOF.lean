import PyProof.Rows.All
import Wide.All
import OpenK.AllK
import Wide.FinOn
import PyProof.EqAt
import PyProof.EqKinds
import PyProof.TupleCall
import HandS.Base
import HandS.Call
import HandS.List
import HandS.Comp
import HandS.Ends
import HandS.Words
import PyProof.ReprReads
import PyProof.ReprRoads
import HandS.Dict
import HandS.Exc
import HandS.ExcInit
import KE.KExcInit
import KE.KExcIs
import HandS.ExcValue
import HandS.MakeKwOnly
import HandS.IsInst
import HandS.ForMost
import HandS.Evl
import HandS.Iter
import HandS.Walk
import HandS.Text
import HandS.FStr
import HandS.Steps
import HandS.Codes
import HandS.EndTab
import HandS.SlotsOwn
import HandS.Property
import HandS.More
import KE.KEqNest
import KE.KRevSl
import HandS.Strs
import HandS.Zip
import PyProof.Rows.SetFrom
import PyProof.WalksMore
import HandS.Lambda
import HandS.Style
import HandS.WordsExc
import PySem.Challenge.RW_maskededits_k01_levels_told
import HandS.Defaults
import HandS.NoneIn
import HandS.ExcField
import PyProof.StrLawsRepr
import PyProof.ListStr
import HandS.Conv
import PyProof.Rows.SeqMore
import PyProof.Rows.StrMul
import KE.KNestM
import KE.KLam
set_option Elab.async false
set_option linter.all false
set_option maxRecDepth 100000
set_option maxHeartbeats 4000000
/-! a def's promise for calls under which no guarded builtin runs; repr of data -/
namespace My
open PySem PySem.Spec PyProof.Rows L2

/-- as FnOk, asked only where no guard runs below -/
structure FnG (P : Program) (w : World) (K : PySem.W.Frag) (mg : Str → Option Value) (base : Heap) (CX : CXT) (k : Nat) (f : Addr) (fd : FuncData)
    (ps : List Str) (sp : Sp) : Prop where
  len : ∀ vs H Q E, sp vs H Q E → vs.length = ps.length
  run : ∀ (A : Around) (outer : List Env) (s : Shared) (H : Hp) (args : Args) (us : List Value) (vs : List V) (Q : VK) (E : XK),
    A.guards = some [] → Room k A → Env0 P w K mg base A outer s H → BindsTo s fd args (ps.zip us) → Vals vs us → sp vs H Q E →
    codeAny (model P w) A (.call (.ref f) args) (CR CX outer P w H s Q E) s

section
variable {P : Program} {w : World} {K : PySem.W.Frag} {mg : Str → Option Value} {base : Heap} {CX : CXT} {k : Nat} {f : Addr} {fd : FuncData}
  {ps : List Str} {sp : Sp}
theorem FnG.of (F : FnOk P w K mg base CX k f fd ps sp) : FnG P w K mg base CX k f fd ps sp :=
  ⟨F.len, fun A outer s H args us vs Q E _ hr e0 hb r hs => F.run A outer s H args us vs Q E hr e0 hb r hs⟩

/-- by the body, its guards known -/
theorem FnG.byBody {x qual : Str} {st : Stmt} {N : List Str} (F : Fun K x qual st f fd) (S : FnScope N ps (defScope st))
    (len : ∀ vs H Q E, sp vs H Q E → vs.length = ps.length)
    (body : ∀ (cdv : Value) (A : Around) (outer : List Env) (s : Shared) (H : Hp) (vs : List V) (Q : VK) (E : XK),
      A.guards = some [] → Room k (A.deeper (envOfC qual (defScope st) s.heap.objs.size f cdv)) → sp vs H Q E →
      ∃ t, PSs (cxOf CX P w K mg base N qual (defScope st) f cdv A outer s H E) (defBody st) t ∧
        t { nx := fun _ H' => Q .non H', rt := Q } (start N vs) H) :
    FnG P w K mg base CX (k + 1) f fd ps sp := by
  obtain ⟨oc, od, kV, doc, pm, an, cdv, ct, osl, rfl, lk, code⟩ := F.ex
  refine ⟨len, fun A outer s H args us vs Q E hg hr e0 hb r hsp => ?_⟩
  have inK : K.In s.heap := e0.mod.kin.keeps fun b o e => (e0.bs b o e).1
  have free : s.heap.NoLimit := e0.mod.nolimit.keeps fun b o e => (e0.bs b o e).1
  refine codeAny_call_function hr.depth (inK _ _ lk) rfl S.co S.gen rfl
    (PySem.W.codeRec_of inK code) (hb _ _ _ _ ?_)
  have kinds : ∀ y ∈ ps.zip us, (defScope st).names.lookup y.1 = some .local ∨
      ((defScope st).names.lookup y.1 = some .cell ∧ ((cellsFrom (s.heap.objs.size + 1) (defScope st).names []).lookup y.1).isSome = true) := by
    rintro ⟨n, v⟩ hy
    cases S.par n (List.of_mem_zip hy).1 with
    | inl q => exact Or.inl q
    | inr q => exact Or.inr ⟨q, PySem.W.cellsFrom_some _ _ _ (Or.inl q)⟩
  refine wpAny_newFunctionEnv_cells S.kind kinds fun env he s1 x => ?_
  subst he
  refine ⟨free.keeps x.toInCall.keep, codeAny_func ?_⟩
  obtain ⟨t, ht, hq⟩ := body cdv A outer s H vs Q E hg (hr.deeper _) hsp
  have I0 : Inv (cxOf CX P w K mg base N qual (defScope st) f cdv A outer s H E) [] (start N vs) H s1 :=
    inv_start S hr.hd e0 (len _ _ _ _ hsp) r x
  refine wpAny_mono (ht.run [] s1 (start N vs) H _ I0 hq) (fun fl s' hs => ?_) fun e s' hs => hs
  match fl, hs with
  | .ret u, hs =>
    obtain ⟨v, σ', H', J, rv, q⟩ := hs
    exact ⟨v, H', J.os, J.bare, J.base, J.hok, rv, q⟩
  | .next, hs =>
    obtain ⟨σ', H', J, q⟩ := hs
    exact ⟨V.non, H', J.os, J.bare, J.base, J.hok, rfl, q⟩
  | .brk, hs =>
    obtain ⟨_, _, _, q⟩ := hs
    exact False.elim q
  | .cont, hs =>
    obtain ⟨_, _, _, q⟩ := hs
    exact False.elim q
end

/-! ### the law's own call, no guard below -/
/-- the script, if it is no object of the written part -/
def onlyScript (K : PySem.W.Frag) (a : Addr) (o : Obj) (xs : List V) : Hp := fun b =>
  if b = a ∧ (K.lookup a).isNone = true then some (.frz o (.lst xs)) else none
theorem onlyScript_at {K : PySem.W.Frag} {a b : Addr} {o : Obj} {xs : List V} {u : HO} (h : onlyScript K a o xs b = some u) :
    b = a ∧ K.lookup a = none ∧ u = .frz o (.lst xs) := by
  unfold onlyScript at h
  split at h
  · next q => exact ⟨q.1, Option.isNone_iff_eq_none.mp q.2, (Option.some.inj h).symm⟩
  · cases h
theorem onlyScript_only {K : PySem.W.Frag} {a : Addr} {o : Obj} {xs : List V} : Only (onlyScript K a o xs) := fun b => by
  cases e : onlyScript K a o xs b with
  | none => exact Or.inl rfl
  | some u =>
    obtain ⟨_, _, rfl⟩ := onlyScript_at e
    exact Or.inr ⟨_, _, rfl⟩

theorem lawCall {P : Program} {w : World} {K : PySem.W.Frag} {mg mb : Str → Option Value} {k : Nat} {fa a : Addr} {fd : FuncData} {x : Str} {sp : Sp}
    {s₁ : Shared} {vs : List Value} {ns : List Int}
    (inK : K.In s₁.heap) (glob : s₁.heap.Ns mainGlobals mg) (blt : s₁.heap.Ns builtinsNs mb) (bltIs : ∀ x : Str, x ≠ "__name__" → mb x = bootBuiltins x)
    (free : s₁.heap.NoLimit) (gens : s₁.gens = #[]) (ha : s₁.heap.get? a = some { cls := .type "list", data := .seq vs.toArray }) (areInts : IntsAre vs ns)
    (len : ns.length ≤ sizeLine) (room : Room k callerA)
    (F : ∀ base : Heap, K.In base → base.Ns mainGlobals mg → FnG P w K mg base CX0 k fa fd [x] sp)
    (binds : ∀ (s : Shared) (u : Value), BindsTo s fd ⟨[u], []⟩ [(x, u)])
    (promise : ∀ H : Hp, Only H → SqL K H a (ns.map V.int) → sp [.ref a] H (fun v _ => v = .bl true) fun _ _ _ => False) :
    codeAny (model P w) callerA (.call (.ref fa) ⟨[.ref a], []⟩)
      (fun r s' => r = .ok (.ret (.bool true)) ∧ OldK s₁.heap s'.heap ∧ s'.os = s₁.os ∧ AllBare s'.gens) s₁ := by
  have rv := vals_ints areInts
  have lenV := areInts.length
  let ob : Obj := { cls := .type "list", data := .seq vs.toArray }
  let H := onlyScript K a ob (ns.map V.int)
  have objOk : ObjOk P w H s₁.heap a (.frz ob (.lst (ns.map V.int))) :=
    ⟨ha, by rw [List.length_map]; exact len, vs, _, rv, ha⟩
  have hok : HOk P w H s₁.heap := fun b u e => by
    obtain ⟨rfl, _, rfl⟩ := onlyScript_at e
    exact objOk
  have hS : SqL K H a (ns.map V.int) := by
    cases e : K.lookup a with
    | none => exact Or.inl (Or.inr ⟨ob, if_pos ⟨rfl, by rw [e]; rfl⟩⟩)
    | some o =>
      have q := inK a o e
      rw [ha] at q
      cases q
      exact Or.inr ⟨_, vs.toArray, _, e, rfl, rfl, rfl, by rw [List.size_toArray, lenV]; exact len, by simpa using rv⟩
  have freeAt : ∀ {b : Addr} {o : Obj}, s₁.heap.get? b = some o → (b = a → False) → H b = none := fun {b o} _ n => by
    cases e : H b with
    | none => rfl
    | some u => exact (n (onlyScript_at e).1).elim
  have under : ∀ {b : Addr} {o : Obj}, s₁.heap.get? b = some o → H b = none → (hidT s₁.heap H).get? b = some o := fun e n => hidT_get e n
  have maps : ∀ {b : Addr} {m : Str → Option Value}, s₁.heap.Ns b m → (hidT s₁.heap H).Ns b m := by
    rintro b m ⟨o, es, ep, e, d, r⟩
    refine ⟨o, es, ep, under e (freeAt e ?_), d, r⟩
    rintro rfl
    rw [ha] at e
    cases e
    cases d
  have inBase : K.In (hidT s₁.heap H) := fun b o e => under (inK b o e) (by
    cases q : H b with
    | none => rfl
    | some u =>
      obtain ⟨rfl, z, _⟩ := onlyScript_at q
      rw [z] at e
      cases e)
  have md : Mod K mg (hidT s₁.heap H) := by
    obtain ⟨mc, q1, q2⟩ := free
    exact ⟨inBase, maps glob, ⟨mb, maps blt, bltIs⟩, ⟨mc, maps q1, q2⟩⟩
  have nil : ∀ b : Addr, b ∈ frs [] → False := fun b z => by
    have z' : b ∈ ([] : List Addr) := z
    cases z'
  have e0 : Env0 P w K mg (hidT s₁.heap H) callerA [] s₁ H :=
    ⟨rfl, md, fun b o e => of_hidT e, Nat.le_of_eq (hidT_size _ _), trivial, fun b hb => (nil b hb).elim, hok, .of_eq gens⟩
  have run := (F _ inBase (maps glob)).run callerA [] s₁ H ⟨[.ref a], []⟩ [.ref a] [.ref a] _ _ rfl room e0 (binds s₁ (.ref a)) (.cons rfl .nil)
    (promise H onlyScript_only hS)
  refine codeAny_mono run fun r s' h => ?_
  match r, h with
  | .error e, h => exact False.elim h
  | .ok (.ret u), h =>
    obtain ⟨v, H', os, bare, un, hok', r', q⟩ := h
    obtain rfl : v = .bl true := q
    obtain rfl : u = Value.bool true := r'
    refine ⟨rfl, OldK.of_keep fun b o e => ?_, os, bare⟩
    cases q : H b with
    | none => exact un.keep b o e q (fun z => nil b z) (by simp)
    | some u =>
      obtain ⟨rfl, _, rfl⟩ := onlyScript_at q
      have q2 := un.frzs _ _ _ q
      obtain ⟨e2, _⟩ := hok' _ _ q2
      rw [ha] at e
      cases e
      exact e2
  | .ok .next, h => exact False.elim h
  | .ok .brk, h => exact False.elim h
  | .ok .cont, h => exact False.elim h

/-- what the head leaves to the law's promise -/
theorem walkG {l : PySem.W.OpenLaw} {n k : Nat} {q : Program} {loose : List Str} {XP : (Str → Option Value) → Heap → Prop} {YP : World → Heap → Prop}
    {d : DefRec} {K : Params → PySem.W.Frag} {sp : World → Sp} {x : Str}
    (most : l.most = some n) (small : n ≤ sizeLine) (hdf : d.params.defaults = []) (room : Room k callerA)
    (hY : ∀ (w : World) (h : Heap), YP w h → (K w.params).In h)
    (F : ∀ (w : World) (mg : Str → Option Value) (fa : Addr) (h : Heap), (K w.params).In h → h.Ns mainGlobals mg → mg d.name = some (.ref fa) →
      ∃ fd : FuncData, (∀ (s : Shared) (u : Value), BindsTo s fd ⟨[u], []⟩ [(x, u)]) ∧
        ∀ base : Heap, (K w.params).In base → base.Ns mainGlobals mg → FnG l.prog w (K w.params) mg base CX0 k fa fd [x] (sp w))
    (promise : ∀ (w : World) (H : Hp) (a : Addr) (ns : List Int), ns.length ≤ n → Only H → SqL (K w.params) H a (ns.map V.int) →
      sp w [.ref a] H (fun v _ => v = .bl true) fun _ _ _ => False) :
    PySem.W.WalkO q loose XP YP l.row.toRowW d [] (fun f vs => PySem.call f vs) := by
  refine Att.attach_call most hdf fun w s₀ s₁ mg mb fa o pm cd doc a vs ns G Y ho hd hcd hmg hobj hints hlen hg => ?_
  have inK := hY w _ Y
  obtain ⟨fd, binds, hF⟩ := F w mg fa _ inK G.T.g hmg
  exact lawCall inK G.T.g G.T.b G.T.builtins G.T.nolimit hg hobj hints (Nat.le_trans hlen small) room hF binds
    fun H hO hS => promise w H a ns hlen hO hS
end My
set_option maxHeartbeats 4000000
/-! values that stand for data, and what repr makes of them -/
namespace My
open PySem PySem.Spec PyProof.Rows L2

mutual
/-- v stands for the datum d: an empty dict may be among it -/
inductive Dd (K : PySem.W.Frag) (H : Hp) : V → PyData → Prop
  | non : Dd K H .non .none
  | bl (b : Bool) : Dd K H (.bl b) (.bool b)
  | int (i : Int) : Dd K H (.int i) (.int i)
  | str (x : Str) : Dd K H (.str x) (.str x)
  | lst {a : Addr} {xs : List V} {ds : List PyData} : SqL K H a xs → Dds K H xs ds → Dd K H (.ref a) (.list ds)
  | tup {a : Addr} {xs : List V} {ds : List PyData} : SqT K H a xs → Dds K H xs ds → Dd K H (.ref a) (.tuple ds)
  | dct {a : Addr} : H a = some (.dK []) → Dd K H (.ref a) (.dict [])
inductive Dds (K : PySem.W.Frag) (H : Hp) : List V → List PyData → Prop
  | nil : Dds K H [] []
  | cons {v : V} {vs : List V} {d : PyData} {ds : List PyData} : Dd K H v d → Dds K H vs ds → Dds K H (v :: vs) (d :: ds)
end

/-! it stands as long as the tracked objects do -/
mutual
theorem Dd.ext {K : PySem.W.Frag} {H H' : Hp} (e : ∀ b o, H b = some o → H' b = some o) : ∀ (d : PyData) (v : V), Dd K H v d → Dd K H' v d
  | .none, _, h => by cases h; exact .non
  | .bool b, _, h => by cases h; exact .bl b
  | .int i, _, h => by cases h; exact .int i
  | .str x, _, h => by cases h; exact .str x
  | .list ds, _, h => by
    cases h with
    | lst hs ha => exact .lst (Same.seq e hs) (Dds.ext e ds _ ha)
  | .tuple ds, _, h => by
    cases h with
    | tup hs ha =>
      refine .tup ?_ (Dds.ext e ds _ ha)
      rcases hs with (h | ⟨o, h⟩) | h
      · exact .inl (.inl (e _ _ h))
      · exact .inl (.inr ⟨o, e _ _ h⟩)
      · exact .inr h
  | .dict kvs, _, h => by
    cases h with
    | dct h => exact .dct (e _ _ h)
theorem Dds.ext {K : PySem.W.Frag} {H H' : Hp} (e : ∀ b o, H b = some o → H' b = some o) : ∀ (ds : List PyData) (vs : List V), Dds K H vs ds → Dds K H' vs ds
  | [], _, h => by cases h; exact .nil
  | d :: ds, _, h => by
    cases h with
    | cons h1 h2 => exact .cons (Dd.ext e d _ h1) (Dds.ext e ds _ h2)
end

section
variable {X : Cx} {pins : List (Addr × Obj)} {σ : L2.St} {H : Hp} {s : Shared}
mutual
theorem Dd.reads (I : Inv X pins σ H s) : ∀ (d : PyData) (v : V) (u : Value), Dd X.K H v d → RelV v u →
    ∃ as, Reads s.heap u d as ∧ (d = .dict [] → sysModules ∉ as)
  | .none, _, _, h, r => by
    cases h
    cases r
    exact ⟨_, Reads.none, by simp⟩
  | .bool b, _, _, h, r => by
    cases h
    cases r
    exact ⟨_, Reads.bool b, by simp⟩
  | .int i, _, _, h, r => by
    cases h
    obtain ⟨t, rfl⟩ := r
    exact ⟨_, Reads.int i t, by simp⟩
  | .str x, _, _, h, r => by
    cases h
    obtain ⟨t, rfl⟩ := r
    exact ⟨_, Reads.str x t, by simp⟩
  | .list ds, _, _, h, r => by
    cases h with
    | lst hs ha =>
      cases r
      obtain ⟨its, rv, ⟨o, m, ho, hc, _, hd⟩, _⟩ := I.list hs
      obtain ⟨as, hr⟩ := Dds.reads I ds _ its ha rv
      exact ⟨_, Reads.list ho hc hd hr, fun z => by cases z⟩
  | .tuple ds, _, _, h, r => by
    cases h with
    | tup hs ha =>
      cases r
      obtain ⟨its, rv, ⟨o, ho, hc, n, hd⟩, _⟩ := I.tuple hs
      obtain ⟨as, hr⟩ := Dds.reads I ds _ its ha rv
      exact ⟨_, Reads.tuple ho hc hd hr, fun z => by cases z⟩
  | .dict kvs, _, _, h, r => by
    cases h with
    | @dct a h =>
      cases r
      obtain ⟨z, hne, vs, rel, dd⟩ := dk_of I.hok h
      cases rel
      obtain ⟨o, es, ep, ho, hx, hd, _, hes, _⟩ := dd
      have e0 : es.toList = [] := by
        cases q : es.toList with
        | nil => rfl
        | cons e r =>
          rw [q] at hes
          cases hes
      refine ⟨_, Reads.dict (kvs := []) ho hx.1 hd (by rw [e0]; exact .nil) (by rw [e0]; exact .nil), fun _ hm => ?_⟩
      have e1 : sysModules = a := by simpa using hm
      rw [e1] at hne
      simp at hne
theorem Dds.reads (I : Inv X pins σ H s) : ∀ (ds : List PyData) (vs : List V) (us : List Value), Dds X.K H vs ds → Vals vs us →
    ∃ as, ReadsAll s.heap us ds as
  | [], _, _, h, r => by
    cases h
    cases r
    exact ⟨_, ReadsAll.nil⟩
  | d :: ds, _, _, h, r => by
    cases h with
    | cons h1 h2 =>
      cases r with
      | cons r1 r2 =>
        obtain ⟨as, q1, _⟩ := Dd.reads I d _ _ h1 r1
        obtain ⟨bs, q2⟩ := Dds.reads I ds _ _ h2 r2
        exact ⟨_, ReadsAll.cons q1 q2⟩
end
mutual
theorem Dp.plain {K : PySem.W.Frag} {H : Hp} : ∀ (d : PyData) (v : V), Dp K H v d → d.hasDict = false
  | .none, _, _ => by simp only [PyData.hasDict]
  | .bool _, _, _ => by simp only [PyData.hasDict]
  | .int _, _, _ => by simp only [PyData.hasDict]
  | .str _, _, _ => by simp only [PyData.hasDict]
  | .list ds, _, h => by
    cases h with
    | lst hs ha =>
      simp only [PyData.hasDict]
      exact DpAll.plain ds _ ha
  | .tuple ds, _, h => by
    cases h with
    | tup hs ha =>
      simp only [PyData.hasDict]
      exact DpAll.plain ds _ ha
  | .dict _, _, h => by cases h
theorem DpAll.plain {K : PySem.W.Frag} {H : Hp} : ∀ (ds : List PyData) (vs : List V), DpAll K H vs ds → PyData.hasDictAll ds = false
  | [], _, _ => by simp only [PyData.hasDictAll]
  | d :: ds, _, h => by
    cases h with
    | cons h1 h2 => simp only [PyData.hasDictAll, Dp.plain d _ h1, DpAll.plain ds _ h2, Bool.or_self]
end
/-- what repr of a value asks: that it stands for a datum, without dicts or with -/
def rRepr (K : PySem.W.Frag) : List V → Hp → VK → Prop := fun xs H Q => ∃ v d, xs = [v] ∧ (Dp K H v d ∨ Dd K H v d ∧ (d.hasDict = false ∨ d = .dict [])) ∧
  d.showable = true ∧ d.shown.length ≤ sizeLine ∧ d.depth ≤ 64 ∧ Q (.str d.shown) H
theorem call_reprU (hg : X.A.guards = some []) (un : X.A.units + 200 < cLine) : CallR X (.builtin "repr") (rRepr X.K) := by
  intro pins s σ H xs us Q I r h
  obtain ⟨v, d, rfl, hd, sh, sz, dp, q⟩ := h
  obtain ⟨u, rfl, ru⟩ := vals1 r
  have rd : ∃ as, Reads s.heap u d as ∧ (d.hasDict = true → sysModules ∉ as) := by
    rcases hd with hd | hd
    · obtain ⟨as, q⟩ := Dp.reads I d v u hd ru
      exact ⟨as, q, fun z => by rw [Dp.plain d v hd] at z; cases z⟩
    · obtain ⟨as, q, n⟩ := Dd.reads I d v u hd.1 ru
      exact ⟨as, q, fun z => n (hd.2.resolve_left fun z2 => by rw [z2] at z; cases z)⟩
  obtain ⟨as, rd, nd⟩ := rd
  have base : ∀ {x : Str} {t' : Nat} {tk : Tok}, x = d.shown → EP X pins σ Q (.str x tk) { s with toks := t' } := fun {x t' tk} e => by
    subst e
    exact ⟨.str _, H, I.tok _, ⟨tk, rfl⟩, q⟩
  cases rd with
  | none => exact PySem.P.repr_of_none (base (by simp only [PyData.shown]))
  | bool b => exact PySem.P.repr_of_bool (base (by simp only [PyData.shown]))
  | int i t => exact PySem.P.repr_of_int (by simpa [PyData.showable] using sh) (base (by simp only [PyData.shown]))
  | str x t => exact PySem.P.repr_of_str (base (by simp only [PyData.shown])) (by simpa only [PyData.shown] using sz)
  | list h1 h2 h3 h4 =>
    exact repr_of_reads' (.list h1 h2 h3 h4) sh nd hg (by omega) (fun _ _ z => z)
      (fun h' u tk hk => ⟨.str _, H, I.kept (t' := tk) hk, ⟨u, rfl⟩, q⟩) sz
  | tuple h1 h2 h3 h4 =>
    exact repr_of_reads' (.tuple h1 h2 h3 h4) sh nd hg (by omega) (fun _ _ z => z)
      (fun h' u tk hk => ⟨.str _, H, I.kept (t' := tk) hk, ⟨u, rfl⟩, q⟩) sz
  | dict h1 h2 h3 h4 h5 =>
    exact repr_of_reads' (.dict h1 h2 h3 h4 h5) sh nd hg (by omega) (fun _ _ z => z)
      (fun h' u tk hk => ⟨.str _, H, I.kept (t' := tk) hk, ⟨u, rfl⟩, q⟩) sz

theorem call_repr {k : Nat} (hg : X.A.guards = some []) (hr : Room k X.A) : CallR X (.builtin "repr") (rRepr X.K) := call_reprU hg (by have := hr.un; omega)

/-- a written list, its address not that of sys.modules -/
def tLstB (t : TA) : TE := fun σ H Q => t σ H fun xs H1 => xs.length ≤ sizeLine ∧ ∀ p, H1 p = none → p ≠ sysModules → Q (.ref p) (upd H1 p (.lst xs))
theorem pe_lstB {es : List Expr} {t : TA} {pos : Pos} (h : PA X es t) : PE X (.List es pos) (tLstB t) := by
  refine ⟨fun pins s σ H Q I hq => ?_⟩
  refine wpAny_List_spliced (thn (h.run pos pins s σ H _ I hq) ?_)
  rintro us s1 ⟨xs, H1, I1, r, z, q⟩
  have new : H1 s1.heap.objs.size = none := I1.hok.fresh (Nat.le_refl _)
  refine ⟨by rw [← r.length]; exact z, .ref s1.heap.objs.size, upd H1 s1.heap.objs.size (.lst xs), ?_, rfl, q _ new (Nat.ne_of_gt I1.big)⟩
  exact I1.laid (t' := s1.toks) (fun b u e => Heap.get?_push_of_some _ e) (Nat.le_refl _) ⟨z, us, 0, r, Heap.get?_push_size _ rfl⟩
end
end My
set_option maxHeartbeats 4000000
/-! own exceptions over any built-in base, made by place or by name, kept as values -/
namespace My
open PySem PySem.W PySem.Calls PyProof.Rows PySem.HandSPX

section
variable {M : Model} {A : Around} {E : Value → Shared → Prop} {h : Heap} {g : Array GenState} {d : Drawn} {t : Nat} {os : OsState}
variable {nm q : Str} {C N : Addr} {bs bm bmB : List Value} {hdct : Bool} {sn : List Str} {sub : List Value} {ab : Bool} {col : Option Bool} {dd : Option Addr}
  {k0 k1 k2 k3 k5 : Option Value} {B newId initId : String} {rest : List Value} {kw : List (Str × Value)}

/-- the mro behind the own class: it has the base that makes, and is no AttributeError, no NameError -/
structure Makes (bm : List Value) (B : String) : Prop where
  base : bm.contains (.type B) = true
  noAttr : bm.contains (.type "AttributeError") = false
  noName : bm.contains (.type "NameError") = false

theorem checkNew (F : ExcBaseFacts B newId initId bmB) (m : Makes bm B) {Q : Unit → Shared → Prop}
    (hC : h.get? C = some (excClassObj nm q C N bs bm hdct sn sub ab col dd k0 k1 k2 k3 k5 newId)) (hq : Q () ⟨h, g, d, t, os⟩) :
    wpAny M A (checkBuiltinCall newId ⟨.ref C :: rest, kw⟩) Q E ⟨h, g, d, t, os⟩ := by
  have has : (Value.ref C :: bm).contains (.type B) = true := by rw [List.contains_cons, m.base, Bool.or_true]
  have star := F.noStar
  simp only [checkBuiltinCall, F.newKind, F.newSplit, F.newRow]
  repeat (first
    | refine wpAny_loadPart_at hC ?_
    | (refine wpAny_isSubtype_exc hC ?_; rw [has])
    | refine wpAny_staticBase_exc hC ?_
    | refine wpAny_madeBy_exc hC ?_
    | simp only [bne_self_eq_false, Bool.false_eq_true, if_false]
    | wp_step)
  exact hq
end

section
variable {prog : Program} {w : World} {A : Around} {E : Value → Shared → Prop} {R : Result → Shared → Prop} {h : Heap} {g : Array GenState} {d : Drawn} {t : Nat} {os : OsState}
variable {nm q : Str} {C N fI : Addr} {bs bm bmB : List Value} {hdct : Bool} {sn : List Str} {sub : List Value} {ab : Bool} {col : Option Bool} {dd : Option Addr}
  {k0 k1 k2 k3 k5 : Option Value} {B newId initId : String} {rest : List Value} {kw : List (Str × Value)}

/-- the bare exception, its arguments laid before it -/
def bare2 (h : Heap) (C : Addr) (rest : List Value) : Heap := (h.push (kdv_tup rest)).push (excO C h.objs.size)
theorem bare2_keeps {b : Addr} {o : Obj} (e : h.get? b = some o) : (bare2 h C rest).get? b = some o :=
  Heap.get?_push_of_some _ (Heap.get?_push_of_some _ e)
theorem bare2_at : (bare2 h C rest).get? (h.objs.size + 1) = some (excO C h.objs.size) := by
  unfold bare2
  heap_get

theorem newOwn (F : ExcBaseFacts B newId initId bmB) (m : Makes bm B) (small : rest.length ≤ sizeLine)
    (hC : h.get? C = some (excClassObj nm q C N bs bm hdct sn sub ab col dd k0 k1 k2 k3 k5 newId))
    (hq : R (.ok (.ret (.ref (h.objs.size + 1)))) ⟨bare2 h C rest, g, d, t, os⟩) :
    codeAny (model prog w) A (.builtin newId ⟨.ref C :: rest, kw⟩) R ⟨h, g, d, t, os⟩ := by
  have ends := F.ends
  have has : ∀ {X : String} {b : Bool}, bm.contains (.type X) = b → (Value.ref C :: bm).contains (.type X) = b := fun {X b} e => by
    rw [List.contains_cons, e]
    rfl
  have isB := has m.base
  have noA := has m.noAttr
  have noN := has m.noName
  refine codeAny_builtinAt F.entry ?_
  unfold Builtin.«BaseException.__new__»
  refine PySem.wpAt_bind ?_
  show PySem.wpAt _ _ _ (stack >>= _) _ _ _
  refine PySem.wpAt_bind (PySem.wpAt_stack fun p below => PySem.wpAt_of_wpAny ?_)
  wp_walk
  refine PySem.wpAt_of_wpAny ?_
  rw [F.owner]
  repeat (first
    | with_reducible refine wpAny_madeHere_exc F.canon hC ?_
    | with_reducible refine wpAny_loadPart_at hC ?_
    | (with_reducible refine wpAny_isSubtype_exc hC ?_; first | rw [isB] | rw [noA] | rw [noN])
    | wp_step)
  show R _ _
  rw [Heap.size_push]
  exact hq

theorem typeCallOwn (F : ExcBaseFacts B newId initId bmB) (m : Makes bm B) (small : rest.length ≤ sizeLine) {Q : Fin → Shared → Prop}
    (hC : h.get? C = some (excClassObj nm q C N bs bm hdct sn sub ab col dd k0 k1 k2 k3 k5 newId))
    (hi : Looks (model prog w) h (typeLookup (.ref C) "__init__") (some (.ref fI)))
    (hb : ∀ self, Looks (model prog w) h (bindSpecial (.ref fI) self) (.ref fI, [self]))
    (hq : codeAny (model prog w) A (.call (.ref fI) ⟨.ref (h.objs.size + 1) :: rest, kw⟩)
      (fun r s' => match r with
        | .ok (.ret v) => v = .none ∧ Q (.done (.ret (.ref (h.objs.size + 1)))) s'
        | .ok _ => False
        | .error e => E e s') ⟨bare2 h C rest, g, d, t, os⟩) :
    wpAny (model prog w) A (Builtin.«type.__call__» ⟨.ref C :: rest, kw⟩) Q E ⟨h, g, d, t, os⟩ := by
  repeat (first
    | with_reducible refine wpAny_loadPart_at hC ?_
    | with_reducible refine wpAny_madeBy_exc hC ?_
    | wp_step)
  refine codeAny_call_builtin_code (Code.quiet_builtin _ F.quiet) (checkNew F m hC ?_)
  refine newOwn F m small hC ?_
  show wpAny _ _ _ _ _ _
  have hC1 : (bare2 h C rest).get? C = _ := bare2_keeps hC
  have at1 : (bare2 h C rest).get? (h.objs.size + 1) = some (excO C h.objs.size) := bare2_at
  have own : (Value.ref C :: bm).contains (.ref C) = true := by simp
  have i1 := hi.keeps (h' := bare2 h C rest) fun b o e => bare2_keeps e
  have b1 := (hb (.ref (h.objs.size + 1))).keeps (h' := bare2 h C rest) fun b o e => bare2_keeps e
  unfold isInstance
  repeat (first
    | with_reducible refine wpAny_loadPart_at at1 ?_
    | (with_reducible refine wpAny_isSubtype_exc hC1 ?_; rw [own])
    | wp_step)
  show wpAny _ _ (typeLookup (.ref C) _) _ _ _
  refine i1.at ?_
  refine wpAny_holding (wpAny_bind (b1.at ?_))
  refine wpAny_bind (wpAny_call (codeAny_mono hq fun r s' z => ?_))
  match r, z with
  | .error e, z => exact z
  | .ok (.ret v), z =>
    obtain ⟨rfl, z⟩ := z
    first
      | exact wpAny_pure (wpAny_pure z)
      | (wp_walk; exact z)
  | .ok .next, z => exact z.elim
  | .ok .brk, z => exact z.elim
  | .ok .cont, z => exact z.elim

theorem callOwn (F : ExcBaseFacts B newId initId bmB) (m : Makes bm B) (small : rest.length ≤ sizeLine)
    (hC : h.get? C = some (excClassObj nm q C N bs bm hdct sn sub ab col dd k0 k1 k2 k3 k5 newId))
    (hi : Looks (model prog w) h (typeLookup (.ref C) "__init__") (some (.ref fI)))
    (hb : ∀ self, Looks (model prog w) h (bindSpecial (.ref fI) self) (.ref fI, [self]))
    (hq : codeAny (model prog w) (A.under (.builtin "type.__call__" ⟨.ref C :: rest, kw⟩)) (.call (.ref fI) ⟨.ref (h.objs.size + 1) :: rest, kw⟩)
      (InitBack (h.objs.size + 1) R) ⟨bare2 h C rest, g, d, t, os⟩) :
    codeAny (model prog w) A (.call (.ref C) ⟨rest, kw⟩) R ⟨h, g, d, t, os⟩ := by
  have f1 := tc_lookup
  have f2 := tc_bind (.ref C)
  have isType : (⟨h, g, d, t, os⟩ : Shared).TypeIs (.ref C) "type" := ⟨_, hC, rfl⟩
  refine codeAny_of_tree ?_
  show wpAny _ _ (callAny (.ref C) _) _ _ _
  repeat (any_goals (first | assumption | with_reducible refine wpAny_loadPart_at hC ?_ | wp_step))
  refine ⟨rfl, ?_⟩
  refine codeAny_call_builtin_at (Code.quiet_builtin _ (by decide +kernel)) entry_typeCall
    (wpAny_check_type_call_sub hC (typeCallOwn F m small hC hi hb ?_))
  refine codeAny_mono hq fun r s' z => ?_
  match r, z with
  | .error e, z => exact z
  | .ok (.ret v), z => exact z
  | .ok .next, z => exact z
  | .ok .brk, z => exact z
  | .ok .cont, z => exact z
end
end My
set_option maxHeartbeats 4000000
/-! self.f = v on own exceptions over any built-in base -/
namespace My
open PySem PySem.W PySem.Calls PyProof.Rows PySem.HandSPX PySem.OEX

/-- what the store asks of the class's mro -/
structure MroOk (l : List Value) : Prop where
  ne : l.isEmpty = false
  obj : l.contains (.type "object") = true
  pass : ∀ self : Value, refuseLoop self "__setattr__" l = pure ()
theorem MroOk.cons {C : Addr} {l : List Value} (m : MroOk l) : MroOk (.ref C :: l) :=
  ⟨rfl, by rw [List.contains_cons, m.obj, Bool.or_true], fun self => by rw [refuseLoop_ref]; exact m.pass self⟩
theorem mroValue : MroOk [.type "ValueError", .type "Exception", .type "BaseException", .type "object"] :=
  ⟨rfl, by decide +kernel, fun self => by kernel_rfl⟩
theorem mroKey : MroOk [.type "KeyError", .type "LookupError", .type "Exception", .type "BaseException", .type "object"] :=
  ⟨rfl, by decide +kernel, fun self => by kernel_rfl⟩
theorem mroRuntime : MroOk [.type "RuntimeError", .type "Exception", .type "BaseException", .type "object"] :=
  ⟨rfl, by decide +kernel, fun self => by kernel_rfl⟩

section
open Builtin Builtin.ObjectAttr
variable {prog : Program} {w : World} {A : Around} {E : Value → Shared → Prop} {R : Result → Shared → Prop} {hp : Heap} {g : Array GenState} {d : Drawn} {t : Nat} {os : OsState}
variable {K : W.Frag} {name : Str} {tk : Tok} {v : Value} {x C dx : Addr} {fv : Array Value} {cd : ClassData}

/-- the first attribute: the exception gets its dict -/
theorem storeNew (inK : K.In hp) (hx : hp.get? x = some { cls := .ref C, data := .fields fv }) (hcd : W.clsIn K C = some cd) (m : MroOk cd.mro)
    (hh : cd.hasDict = true) (no : W.findIn K (.ref C) name = some none)
    (hq : ∀ h' tk' dx, (∀ b o, b ≠ x → hp.get? b = some o → h'.get? b = some o) → hp.objs.size ≤ dx → dx ≠ x →
      h'.get? x = some { cls := .ref C, dict := some dx, data := .fields fv } → h'.Ns1 dx (fun y => if y = name then some v else none) →
      R (.ok (.ret .none)) ⟨h', g, d, tk', os⟩) :
    codeAny (model prog w) A (.call (.builtin "object.__setattr__") ⟨[.ref x, .str name tk, v], []⟩) R ⟨hp, g, d, t, os⟩ := by
  have inst : W.InstAt hp x { cls := .ref C, data := .fields fv } C none := ⟨hx, rfl, rfl, trivial⟩
  have SF := F.store_object
  have apart : x ≠ hp.objs.size := Nat.ne_of_lt (Heap.lt_size hx)
  have sub : W.Looks (model prog w) hp (isInstance (.ref x) (.type "object")) true :=
    inst.type.andThen (W.looks_mroIn inK (by
      unfold W.mroIn
      rw [hcd, Option.bind_some, if_neg (by rw [m.ne]; decide), m.obj]))
  refine codeAny_call_builtin SF.slot.plain SF.entry (@W.check_slot (model prog w) _ _ ⟨hp, g, d, t, os⟩ "object.__setattr__" "object" "__setattr__"
    (.ref x) [.str name tk, v] [] _ SF.kind SF.split sub (SF.args (.ref x) (.str name tk) v) ?_)
  have mroL : W.Looks (model prog w) hp (mroOf (.ref C)) cd.mro := (W.looks_clsIn inK hcd).andThen .now
  have taker : W.Looks (model prog w) hp (storeTaker? none) none := .now
  have clsL : W.Looks (model prog w) hp (classData C) cd := W.looks_clsIn inK hcd
  rw [W.osa_eq, refuse_eq]
  refine wpAny_bind (wpAny_bind (inst.type.at (wpAny_bind (mroL.at ?_))))
  rw [m.pass]
  refine wpAny_pure (wpAny_bind (inst.type.at (wpAny_bind ((W.looks_findIn inK no).at (wpAny_bind (taker.at ?_))))))
  show wpAny _ _ (storeInOwnDict (.ref x) (.ref C) (.str name tk) name v false) _ _ _
  obtain ⟨nm, bs, mro, ns, qn, hd, sn, sb, ab, col, del⟩ := cd
  dsimp only at hh
  subst hh
  unfold storeInOwnDict ownDictForStores
  repeat (first
    | with_reducible refine store_in_new ?_ ?_
    | with_reducible refine wpAny_loadPart_at hx ?_
    | with_reducible refine clsL.at ?_
    | wp_step)
  · exact ⟨_, #[], _, (Heap.get?_update_ne _ _ _ _ apart.symm).trans (Heap.get?_push_at rfl rfl), rfl, fun e he => absurd he (by simp), fun _ => rfl⟩
  · intro h' tk' hn' hs
    have hx1 : (hp.push { cls := .type "dict", data := .dict #[] }).get? x = some { cls := .ref C, data := .fields fv } := Heap.get?_push_of_some _ hx
    refine hq h' tk' hp.objs.size (fun b o hb ho => ?_) (Nat.le_refl _) apart.symm ?_ hn'
    · exact (hs.2 b (Nat.ne_of_lt (Heap.lt_size ho))).trans ((Heap.get?_update_ne _ _ _ _ hb).trans (Heap.get?_push_of_some _ ho))
    · exact (hs.2 x apart).trans (Heap.get?_update_self _ hx1 rfl)

/-- a further attribute -/
theorem storeMore {m0 : Str → Option Value} {nl : List Str} (inK : K.In hp) (hx : hp.get? x = some { cls := .ref C, dict := some dx, data := .fields fv })
    (hns : hp.Ns1 dx m0) (hw : Within m0 nl) (few : nl.length ≤ 1000) (hcd : W.clsIn K C = some cd) (m : MroOk cd.mro) (hh : cd.hasDict = true)
    (no : W.findIn K (.ref C) name = some none)
    (hq : ∀ h' tk', (∀ b o, b ≠ dx → hp.get? b = some o → h'.get? b = some o) → h'.Ns1 dx (fun y => if y = name then some v else m0 y) →
      R (.ok (.ret .none)) ⟨h', g, d, tk', os⟩) :
    codeAny (model prog w) A (.call (.builtin "object.__setattr__") ⟨[.ref x, .str name tk, v], []⟩) R ⟨hp, g, d, t, os⟩ := by
  obtain ⟨oD, esD, epD, hoD, hdD, _⟩ := hns.count hw
  have inst : W.InstAt hp x { cls := .ref C, dict := some dx, data := .fields fv } C (some oD) := ⟨hx, rfl, rfl, hoD⟩
  have SF := F.store_object
  have sub : W.Looks (model prog w) hp (isInstance (.ref x) (.type "object")) true :=
    inst.type.andThen (W.looks_mroIn inK (by
      unfold W.mroIn
      rw [hcd, Option.bind_some, if_neg (by rw [m.ne]; decide), m.obj]))
  refine codeAny_call_builtin SF.slot.plain SF.entry (@W.check_slot (model prog w) _ _ ⟨hp, g, d, t, os⟩ "object.__setattr__" "object" "__setattr__"
    (.ref x) [.str name tk, v] [] _ SF.kind SF.split sub (SF.args (.ref x) (.str name tk) v) ?_)
  have mroL : W.Looks (model prog w) hp (mroOf (.ref C)) cd.mro := (W.looks_clsIn inK hcd).andThen .now
  have taker : W.Looks (model prog w) hp (storeTaker? none) none := .now
  have clsL : W.Looks (model prog w) hp (classData C) cd := W.looks_clsIn inK hcd
  rw [W.osa_eq, refuse_eq]
  refine wpAny_bind (wpAny_bind (inst.type.at (wpAny_bind (mroL.at ?_))))
  rw [m.pass]
  refine wpAny_pure (wpAny_bind (inst.type.at (wpAny_bind ((W.looks_findIn inK no).at (wpAny_bind (taker.at ?_))))))
  show wpAny _ _ (storeInOwnDict (.ref x) (.ref C) (.str name tk) name v false) _ _ _
  obtain ⟨nm, bs, mro, ns, qn, hd, sn, sb, ab, col, del⟩ := cd
  dsimp only at hh
  subst hh
  unfold storeInOwnDict ownDictForStores
  repeat (first
    | with_reducible refine store_in_old hns hw few ?_
    | with_reducible refine wpAny_loadPart_at hx ?_
    | with_reducible refine clsL.at ?_
    | wp_step)
  intro h' tk' hn' hs
  exact hq h' tk' (fun b o hb ho => (hs.2 b hb).trans ho) hn'
end
end My
set_option maxHeartbeats 4000000
/-! own exceptions made as values, by place or by name; their __init__ walked as a def -/
namespace My
open PySem PySem.Spec PyProof.Rows L2

/-- what the written part says of an own exception class, whatever built-in it stands on -/
structure ExG (K : PySem.W.Frag) (C : Addr) : Prop where
  cls : ∃ nm q N bs bm sn sub ab col dd k0 k1 k2 k3 k5 B newId initId bmB,
    K.lookup C = some (excClassObj nm q C N bs bm true sn sub ab col dd k0 k1 k2 k3 k5 newId) ∧ ExcBaseFacts B newId initId bmB ∧ Makes bm B ∧ MroOk bm
  sa : PySem.W.findIn K (.ref C) "__setattr__" = some (some (.builtin "object.__setattr__"))
  kC : PySem.W.keepIn K (.ref C) = true

section
variable {X : Cx} {pins : List (Addr × Obj)} {σ : L2.St} {H : Hp} {s : Shared} {a C dx : Addr} {f : Str} {y : V} {u : Value} {fs : List (Str × V)}
  {Q : Unit → Shared → Prop} {E : Value → Shared → Prop} {A : Around}
/-- a heap may be read without one object that is new -/
theorem Inv.grow {h' : Heap} {b : Addr} {o : HO} {t' : Nat} {G : Heap} (I : Inv X pins σ H { s with heap := G }) (k : ∀ c u, G.get? c = some u → h'.get? c = some u)
    (gone : G.get? b = none) (hn : H b = none) (new : ObjOk X.prog X.w (upd H b o) h' b o) : Inv X pins σ (upd H b o) { s with heap := h', toks := t' } :=
  L2.Inv.laidN (s := { s with heap := G }) I k gone hn new

theorem selfNew (T : ExG X.K C) (I : Inv X pins σ H s) (e : H a = some (exo a C none)) (no : PySem.W.findIn X.K (.ref C) f = some none) (ry : L2.RelV y u)
    (h : ∀ dx s', H dx = none → dx ≠ a → Inv X pins σ (upd (upd H a (exo a C (some dx))) dx (exd dx [(f, y)])) s' → Q () s') :
    wpAny (model X.prog X.w) A (setAttr (.ref a) f u) Q E s := by
  obtain ⟨nm, q, N, bs, bm, sn, sub, ab, col, dd, k0, k1, k2, k3, k5, B, newId, initId, bmB, hC, _, _, mro⟩ := T.cls
  have hcl : PySem.W.clsIn X.K C = some { name := nm, bases := bs, mro := .ref C :: bm, ns := N, qualname := q, hasDict := true, slotNames := sn, subclasses := sub, abstract := ab, collection := col, hasDel := false } := by
    unfold PySem.W.clsIn
    rw [hC]
    all_goals rfl
  obtain ⟨t1, ho⟩ := exo_at I.hok e
  have I0 := I
  obtain ⟨hp, g, d, t, os⟩ := s
  refine PySem.W.set_plain I.kIn (ox := { cls := .ref C, dict := none, data := .fields #[.ref t1, .none, .none, .none, .bool false, .none] }) (od := none) ⟨ho, rfl, rfl, trivial⟩ T.sa ?_
  refine storeNew I.kIn ho hcl mro.cons rfl no (fun h' tk' dx k dn dne hx hn => ?_)
  have hnd : H dx = none := I.hok.fresh dn
  obtain ⟨G, g1, g2⟩ := restrict h' fun b => decide (b ≠ dx)
  have same : ∀ b, b ≠ dx → G.get? b = h'.get? b := fun b hb => g1 b (decide_eq_true hb)
  have gone : G.get? dx = none := g2 dx (by simp)
  have sub' : ∀ c o, G.get? c = some o → h'.get? c = some o := fun c o z => by
    by_cases hc : c = dx
    · rw [hc, gone] at z
      cases z
    · rw [← same c hc]
      exact z
  have old : ∀ c o, hp.get? c = some o → c ≠ dx := fun c o z => Nat.ne_of_lt (Nat.lt_of_lt_of_le (Heap.lt_size z) dn)
  have hxG : G.get? a = some { cls := .ref C, dict := some dx, data := .fields #[.ref t1, .none, .none, .none, .bool false, .none] } := by
    rw [same a (Ne.symm dne)]
    exact hx
  have I1 : Inv X pins σ (upd H a (exo a C (some dx))) { (⟨hp, g, d, t, os⟩ : Shared) with heap := G, toks := tk' } :=
    I0.write (t' := tk') (x := a) (e := a) (o := exo a C (some dx)) (by rw [e]; exact True.intro) (.inl rfl)
      (fun b o hb z => by rw [same b (old b o z)]; exact k b o hb z) ⟨_, hxG⟩ (exo_ok hxG)
  have hn1 : upd H a (exo a C (some dx)) dx = none := by
    rw [upd_ne dne]
    exact hnd
  exact h dx _ hnd dne (L2.Inv.laidN (s := { (⟨hp, g, d, t, os⟩ : Shared) with heap := G, toks := tk' }) (t' := tk') I1 sub' gone hn1
    (exd_ok hn (relO_put (fs := []) ry fun g => True.intro)))

theorem selfMore (T : ExG X.K C) (I : Inv X pins σ H s) (e : H a = some (exo a C (some dx))) (ed : H dx = some (exd dx fs)) (few : fs.length ≤ 900)
    (no : PySem.W.findIn X.K (.ref C) f = some none) (ry : L2.RelV y u) (h : ∀ s', Inv X pins σ (upd H dx (exd dx ((f, y) :: fs))) s' → Q () s') :
    wpAny (model X.prog X.w) A (setAttr (.ref a) f u) Q E s := by
  obtain ⟨nm, q, N, bs, bm, sn, sub, ab, col, dd, k0, k1, k2, k3, k5, B, newId, initId, bmB, hC, _, _, mro⟩ := T.cls
  have hcl : PySem.W.clsIn X.K C = some { name := nm, bases := bs, mro := .ref C :: bm, ns := N, qualname := q, hasDict := true, slotNames := sn, subclasses := sub, abstract := ab, collection := col, hasDel := false } := by
    unfold PySem.W.clsIn
    rw [hC]
    all_goals rfl
  obtain ⟨t1, ho⟩ := exo_at I.hok e
  obtain ⟨mA, hns, rel⟩ := exd_at I.hok ed
  have hw := within_of rel
  have I0 := I
  obtain ⟨hp, g, d, t, os⟩ := s
  obtain ⟨oD, _, _, hoD, _, _⟩ := hns.count hw
  refine PySem.W.set_plain I.kIn (ox := { cls := .ref C, dict := some dx, data := .fields #[.ref t1, .none, .none, .none, .bool false, .none] }) (od := some oD) ⟨ho, rfl, rfl, hoD⟩ T.sa ?_
  refine storeMore I.kIn ho hns hw (by rw [List.length_map]; omega) hcl mro.cons rfl no (fun h' tk' k hn => ?_)
  have hd : ∃ o, h'.get? dx = some o := by
    obtain ⟨o, _, _, e', _⟩ := hn
    exact ⟨o, e'⟩
  exact h _ (I0.write (t' := tk') (x := dx) (e := dx) (o := exd dx ((f, y) :: fs)) (by rw [ed]; exact True.intro) (.inl rfl) k hd (exd_ok hn (relO_put ry rel)))
end

/-- self.f = e -/
def tSelf (K : PySem.W.Frag) (f : Str) (to te : TE) : TS := fun D σ H => te σ H fun y H1 => to σ H1 fun x H2 => ∃ a C : Addr, x = .ref a ∧ ExG K C ∧ PySem.W.findIn K (.ref C) f = some none ∧
  ((H2 a = some (exo a C none) ∧ ∀ dx, H2 dx = none → dx ≠ a → D.nx σ (upd (upd H2 a (exo a C (some dx))) dx (exd dx [(f, y)]))) ∨
    ∃ (dx : Addr) (fs : List (Str × V)), H2 a = some (exo a C (some dx)) ∧ H2 dx = some (exd dx fs) ∧ fs.length ≤ 900 ∧ D.nx σ (upd H2 dx (exd dx ((f, y) :: fs))))
section
variable {X : Cx} {o e : Expr} {to te : TE} {f : Str} {p' pos : Pos}
theorem ps_self (ho : PE X o to) (he : PE X e te) (hs : swapsWith e (some (.Attribute o f p')) pos.line X.env = pure false := by rfl) :
    PS X (.Assign [.Attribute o f p'] e pos) (tSelf X.K f to te) := by
  refine ⟨fun pins s σ H D I h => ?_⟩
  refine plainObj_wpAny_Assign_Attribute (thn (he.run pins s σ H _ I h) ?_) hs
  rintro v s1 ⟨y, H1, I1, r1, q1⟩
  refine thn (ho.run pins s1 σ H1 _ I1 q1) ?_
  rintro u s2 ⟨x, H2, I2, r2, a, C, ex, T, no, q⟩
  subst ex
  obtain rfl : u = Value.ref a := r2
  rcases q with ⟨ea, q⟩ | ⟨dx, fs, ea, ed, few, q⟩
  · exact selfNew T I2 ea no r1 fun dx s' n ne J => ⟨σ, _, J, q dx n ne⟩
  · exact selfMore T I2 ea ed few no r1 fun s' J => ⟨σ, _, J, q⟩
end

/-! ### C(e, ..), C(.., k = v) as a value -/
def tMadeK (C : Addr) (n m : Nat) (sp : Sp) (gV : List V → List V → List V) (t tk : TA) : TE := fun σ H Q => t σ H fun vs H1 => tk σ H1 fun zs H2 => vs.length = n ∧ zs.length = m ∧ n ≤ 1000 ∧
  ∀ a, H2 a = none → sp (gV (.ref a :: vs) zs) (upd H2 a (exo a C none)) (fun v H3 => v = .non ∧ Q (.ref a) H3) (fun _ _ _ => False)
section
variable {X : Cx} {CX : CXT} {k n : Nat} {fI C : Addr} {fd : FuncData} {ps ks : List Str} {sp : Sp} {x : Str} {p pos : Pos} {e : Expr} {es : List Expr} {kws : List Keyword}
  {t tk : TA} {g : List Value → List Value → List Value} {gV : List V → List V → List V}
theorem runMade {pins : List (Addr × Obj)} {σ : L2.St} {H : Hp} {s : Shared} {Q : VK} {us ws : List Value} {vs zs : List V} (T : ExG X.K C)
    (iC : PySem.W.findIn X.K (.ref C) "__init__" = some (some (.ref fI))) (tI : PySem.W.typeIn X.K (.ref fI) = some (.type "function"))
    (F : FnOk X.prog X.w X.K X.mg X.base CX k fI fd ps sp) (hr : Room (k + 1) X.A) (hb : KBn X.K fd ps (n + 1) ks g gV) (hx : Passes CX X (fun _ _ _ => False))
    (I : Inv X pins σ H s) (r : Vals vs us) (rz : Vals zs ws) (l1 : vs.length = n) (l2 : zs.length = ks.length) (few : n ≤ 1000)
    (h : ∀ a, H a = none → sp (gV (.ref a :: vs) zs) (upd H a (exo a C none)) (fun v H3 => v = .non ∧ Q (.ref a) H3) (fun _ _ _ => False)) :
    wpAny (model X.prog X.w) X.A (call (.ref C) us (ks.zip ws)) (EP X pins σ Q) X.xe s := by
  obtain ⟨nm, q, N, bs, bm, sn, sub, ab, col, dd, k0, k1, k2, k3, k5, B, newId, initId, bmB, hC, FB, mk, _⟩ := T.cls
  obtain ⟨hp, gg, dr, tok, os⟩ := s
  have sz : hp.objs.size ≤ hp.objs.size + 1 := Nat.le_succ _
  have hq := h (hp.objs.size + 1) (I.hok.fresh sz)
  have I2 : Inv X pins σ (upd H (hp.objs.size + 1) (exo (hp.objs.size + 1) C none)) ⟨bare2 hp C us, gg, dr, tok, os⟩ :=
    I.laid (t' := tok) (a := hp.objs.size + 1) (o := exo (hp.objs.size + 1) C none) (h' := bare2 hp C us) (fun b o z => bare2_keeps z) sz (exo_ok bare2_at)
  have r1 : Vals (V.ref (hp.objs.size + 1) :: vs) (Value.ref (hp.objs.size + 1) :: us) := .cons rfl r
  have r2 := hb.rel r1 rz
  have n1 : (Value.ref (hp.objs.size + 1) :: us).length = n + 1 := by
    rw [List.length_cons, ← r.length, l1]
  have small : us.length ≤ sizeLine := by
    rw [← Paired.length r, l1, sizeLine_eq]
    omega
  refine wpAny_call (callOwn FB mk small (I.kIn _ _ hC) (PySem.W.looks_findIn I.kIn iC) (fun self => PySem.W.bind_fn I.kIn self tI)
    (codeAny_mono (F.run _ X.stack _ _ ⟨Value.ref (hp.objs.size + 1) :: us, ks.zip ws⟩ (g (Value.ref (hp.objs.size + 1) :: us) ws) _ _ (fun _ _ _ => False)
      (hr.make C us (ks.zip ws)) (I2.env0.make C us (ks.zip ws)) (hb.to _ (Value.ref (hp.objs.size + 1) :: us) ws I2.kIn n1 (rz.length.symm.trans l2)) r2 hq) fun r s' hq' => ?_))
  match r, hq' with
  | .error e, hq' => exact hx pins σ _ _ e s' I2 hq'
  | .ok (.ret u), hq' =>
    obtain ⟨v, H', I3, rv, ev, q3⟩ := I2.after hq'
    subst ev
    exact ⟨rv, ⟨V.ref (hp.objs.size + 1), H', I3, rfl, q3⟩⟩
  | .ok .next, hq' => exact False.elim hq'
  | .ok .brk, hq' => exact False.elim hq'
  | .ok .cont, hq' => exact False.elim hq'

theorem pe_madeK0 (T : ExG X.K C) (iC : PySem.W.findIn X.K (.ref C) "__init__" = some (some (.ref fI))) (tI : PySem.W.typeIn X.K (.ref fI) = some (.type "function"))
    (F : FnOk X.prog X.w X.K X.mg X.base CX k fI fd ps sp) (hr : Room (k + 1) X.A) (hg : Gl X x) (hm : X.mg x = some (.ref C)) (hb : KBn X.K fd ps 1 ks g gV)
    (hx : Passes CX X (fun _ _ _ => False)) (hkw : PK X kws tk) (hall : (backToKw pos (keywordEach kws X.env)).all (·.1.isSome) = true := by rfl)
    (hks : (backToKw pos (keywordEach kws X.env)).filterMap (·.1) = ks := by rfl) (hdb : (x == ("__debug__" : Str)) = false := by decide)
    (hpl : ((backTo pos (starEach [] X.env)).any (·.1) || (backToKw pos (keywordEach kws X.env)).any (·.1.isNone)) = false := by rfl) :
    PE X (.Call (.Name x p) [] kws pos) (tMadeK C 0 ks.length sp gV tNil tk) := by
  refine ⟨fun pins s σ H Q I h => ?_⟩
  refine wpAny_Call_Name_kw (ld_glob I hg hm ?_ hdb)
  refine PySem.W.callWith_KW0 (h₀ := X.base) I.ok.mod.kin T.kC hall ?_ hpl
  refine thn (hkw.run pos pins s σ H _ I h) ?_
  rintro ws s2 ⟨zs, H2, I2, rz, l1, l2, l3, q2⟩
  refine ⟨I2.kIn, ?_⟩
  rw [hks]
  exact runMade (us := []) (vs := []) T iC tI F hr hb hx I2 .nil rz rfl l2 l3 q2

theorem pe_madeK (T : ExG X.K C) (iC : PySem.W.findIn X.K (.ref C) "__init__" = some (some (.ref fI))) (tI : PySem.W.typeIn X.K (.ref fI) = some (.type "function"))
    (F : FnOk X.prog X.w X.K X.mg X.base CX k fI fd ps sp) (hr : Room (k + 1) X.A) (hg : Gl X x) (hm : X.mg x = some (.ref C)) (hb : KBn X.K fd ps (n + 1) ks g gV)
    (hx : Passes CX X (fun _ _ _ => False)) (ha : PA X (e :: es) t) (hkw : PK X kws tk) (hall : (backToKw pos (keywordEach kws X.env)).all (·.1.isSome) = true := by rfl)
    (hks : (backToKw pos (keywordEach kws X.env)).filterMap (·.1) = ks := by rfl) (hdb : (x == ("__debug__" : Str)) = false := by decide)
    (he : starEach (e :: es) X.env = (false, eval e X.env) :: starEach es X.env := by rfl)
    (hpl : ((backTo pos (starEach (e :: es) X.env)).any (·.1) || (backToKw pos (keywordEach kws X.env)).any (·.1.isNone)) = false := by rfl) :
    PE X (.Call (.Name x p) (e :: es) kws pos) (tMadeK C n ks.length sp gV t tk) := by
  refine ⟨fun pins s σ H Q I h => ?_⟩
  refine wpAny_Call_Name_kw (ld_glob I hg hm ?_ hdb)
  refine PySem.W.callWith_KW (h₀ := X.base) I.ok.mod.kin T.kC hall (thn (ha.run pos pins s σ H _ I h) ?_) hpl he
  rintro us s1 ⟨vs, H1, I1, r, q⟩
  refine thn (hkw.run pos pins s1 σ H1 _ I1 q) ?_
  rintro ws s2 ⟨zs, H2, I2, rz, l1, l2, l3, q2⟩
  refine ⟨I2.kIn, ?_⟩
  rw [hks]
  exact runMade T iC tI F hr hb hx I2 r rz l1 l2 l3 q2
end
end My
set_option maxHeartbeats 4000000
/-! own exceptions as values: an attribute read, isinstance asked -/
namespace My
open PySem PySem.Spec PyProof.Rows L2

/-- what the class says of attributes read and of isinstance -/
structure ExR (K : PySem.W.Frag) (C : Addr) : Prop where
  ga : PySem.W.findIn K (.ref C) "__getattribute__" = some (some (.builtin "BaseException.__getattribute__"))
  gg : PySem.W.findIn K (.ref C) "__getattr__" = some none
  exC : PySem.W.subIn K (.ref C) (.type "BaseException") = some true
  hd : PySem.W.hasDictIn K C = true
  ha : PySem.W.findIn K (.ref C) "__class__" = some (some (.builtin "object.__class__"))
  hn : PySem.W.specialIn K (.builtin "object.__class__") "__get__" = some (some (.builtin "getset_descriptor.__get__"))
  ht : PySem.W.takesIn K (.builtin "object.__class__") = some true
  hm : PySem.W.mroIn K C (.type "object") = some true

/-- e.f, e an exception that has it -/
def tExAt (K : PySem.W.Frag) (f : Str) (te : TE) : TE := fun σ H Q => te σ H fun x H1 => ∃ (a C dx : Addr) (fs : List (Str × V)) (v : V), x = .ref a ∧ ExR K C ∧
  PySem.W.findIn K (.ref C) f = some none ∧ H1 a = some (exo a C (some dx)) ∧ H1 dx = some (exd dx fs) ∧ fs.lookup f = some v ∧ Q v H1
section
variable {X : Cx} {e : Expr} {te : TE} {f : Str} {pos : Pos}
theorem pe_exAt (he : PE X e te) (hb : attributeBase e f X.env (eval e X.env) = eval e X.env := by rfl) : PE X (.Attribute e f pos) (tExAt X.K f te) := by
  refine ⟨fun pins s σ H Q I h => ?_⟩
  refine attr_of hb (thn (he.run pins s σ H _ I h) ?_)
  rintro u s1 ⟨x, H1, I1, rx, a, C, dx, fs, v, ex, R, no, ea, ed, el, q⟩
  subst ex
  obtain rfl : u = Value.ref a := rx
  obtain ⟨t1, ho⟩ := exo_at I1.hok ea
  obtain ⟨mA, hns, rel⟩ := exd_at I1.hok ed
  obtain ⟨od, hod, hl⟩ := lookIn_ns hns
  obtain ⟨u', hu, ru⟩ := RelO.some_of (v := v) (o := mA f) (by rw [← el]; exact rel f)
  have J : PySem.W.InstAt s1.heap a { cls := .ref C, dict := some dx, data := .fields #[.ref t1, .none, .none, .none, .bool false, .none] } C (some od) := ⟨ho, rfl, rfl, hod⟩
  exact HandSPX.exc_get I1.kIn J R.ga R.gg R.exC (PySem.W.findObj_own R.hd no rfl (by rw [hl, hu])) (handed_of ru) ⟨v, H1, I1.tok _, ru, q⟩

/-- isinstance(e, c), e an exception kept as a value -/
def rIsX (K : PySem.W.Frag) : List V → Hp → VK → Prop := fun xs H Q => ∃ (a D : Addr) (d : Option Addr) (c : V) (cv : Value) (b : Bool), xs = [.ref a, c] ∧ ExR K D ∧
  H a = some (exo a D d) ∧ (∀ dx, d = some dx → ∃ fs, H dx = some (exd dx fs)) ∧ ClsV c cv ∧ PySem.W.kitOne K (.ref D) cv = some b ∧ Q (.bl b) H
theorem call_isX : CallR X (.builtin "isinstance") (rIsX X.K) := by
  intro pins s σ H xs us Q I r h
  obtain ⟨a, D, d, c, cv, b, rfl, R, ea, ed, hc, e, q⟩ := h
  obtain ⟨u1, u2, rfl, r1, r2⟩ := vals2 r
  obtain rfl : u1 = Value.ref a := r1
  have e2 := hc.eq r2
  subst e2
  obtain ⟨t1, ho⟩ := exo_at I.hok ea
  obtain ⟨cdD, hcD, _⟩ := PySem.W.any_some R.hd
  have isCls : (PySem.W.clsIn X.K D).isSome = true := by
    rw [hcD]
    rfl
  have done : ∀ tk, EP X pins σ Q (.bool b) { s with toks := tk } := fun tk => ⟨.bl b, H, I.tok _, rfl, q⟩
  cases d with
  | none =>
    have J : PySem.W.InstAt s.heap a { cls := .ref D, dict := none, data := .fields #[.ref t1, .none, .none, .none, .bool false, .none] } D none := ⟨ho, rfl, rfl, trivial⟩
    exact PySem.W.kia_one (PySem.W.kitx_exc isCls R.ga R.gg R.exC R.ha R.hn R.ht R.hm) I.kIn J e (fun z => nomatch z) done
  | some dx =>
    obtain ⟨fs, ed'⟩ := ed dx rfl
    obtain ⟨mA, hns, rel⟩ := exd_at I.hok ed'
    obtain ⟨od, hod, hl⟩ := lookIn_ns hns
    have J : PySem.W.InstAt s.heap a { cls := .ref D, dict := some dx, data := .fields #[.ref t1, .none, .none, .none, .bool false, .none] } D (some od) := ⟨ho, rfl, rfl, hod⟩
    exact PySem.W.kia_one (PySem.W.kitx_exc isCls R.ga R.gg R.exC R.ha R.hn R.ht R.hm) I.kIn J e (fun z => nomatch z) done
end
end My
set_option maxHeartbeats 4000000
/-! the __init__ of own exceptions, by their shapes -/
namespace My
open PySem PySem.Spec PyProof.Rows L2

theorem visOf {N ps : List Str} {sc : Scope} (S : FnScope N ps sc) {x : Str} (h : x ∈ ps) : Vis sc x := by
  rcases S.par x h with k | k
  · exact .inl k
  · exact .inr (.inl k)

/-- one attribute: self.f = f -/
def spOne (C : Addr) (f : Str) : Sp := fun vs H Q _ => ∃ (a : Addr) (v : V), vs = [.ref a, v] ∧ H a = some (exo a C none) ∧
  ∀ dx, H dx = none → dx ≠ a → Q .non (upd (upd H a (exo a C (some dx))) dx (exd dx [(f, v)]))
/-- two: self.f = f, self.g = g -/
def spTwo (C : Addr) (f g : Str) : Sp := fun vs H Q _ => ∃ (a : Addr) (v u : V), vs = [.ref a, v, u] ∧ H a = some (exo a C none) ∧
  ∀ dx, H dx = none → dx ≠ a → Q .non (upd (upd (upd H a (exo a C (some dx))) dx (exd dx [(f, v)])) dx (exd dx [(g, u), (f, v)]))
/-- none: B.__init__(self, a text) -/
def spNil (C : Addr) : Sp := fun vs H Q _ => ∃ a : Addr, vs = [.ref a] ∧ H a = some (exo a C none) ∧ Q .non H

section
variable {P : Program} {w : World} {K : PySem.W.Frag} {mg : Str → Option Value} {base : Heap} {st : Stmt} {qual f g : Str} {C fI : Addr} {fd : FuncData}
theorem ok_one (F : Fun K "__init__" qual st fI fd) (S : FnScope ["self", f] ["self", f] (defScope st))
    (hb : ∃ p1 p2 p3 p4, defBody st = [.Assign [.Attribute (.Name "self" p1) f p2] (.Name f p3) p4])
    (hf : (f == ("__debug__" : Str)) = false) (hf2 : (f == ("__classdict__" : Str)) = false) (T : ExG K C) (no : PySem.W.findIn K (.ref C) f = some none) :
    FnOk P w K mg base CX0 1 fI fd ["self", f] (spOne C f) := by
  obtain ⟨p1, p2, p3, p4, hb⟩ := hb
  refine F.ok S (fun vs H Q E h => ?_) (fun cdv A outer s H vs Q E hr h => ?_)
  · obtain ⟨a, v, rfl, _⟩ := h
    rfl
  · obtain ⟨a, v, rfl, ha, k⟩ := h
    rw [hb]
    refine ⟨_, pss_one (ps_self (pv 0 (hv := visOf S (by simp))) (pv 1 (hv := visOf S (by simp)) (hd := hf) (hcd := hf2))), ?_⟩
    exact ⟨v, rfl, .ref a, rfl, a, C, rfl, T, no, .inl ⟨ha, fun dx n ne => k dx n ne⟩⟩
theorem ok_two (F : Fun K "__init__" qual st fI fd) (S : FnScope ["self", f, g] ["self", f, g] (defScope st))
    (hb : ∃ p1 p2 p3 p4 q1 q2 q3 q4, defBody st = [.Assign [.Attribute (.Name "self" p1) f p2] (.Name f p3) p4, .Assign [.Attribute (.Name "self" q1) g q2] (.Name g q3) q4])
    (hf : (f == ("__debug__" : Str)) = false) (hf2 : (f == ("__classdict__" : Str)) = false) (hg : (g == ("__debug__" : Str)) = false) (hg2 : (g == ("__classdict__" : Str)) = false)
    (T : ExG K C) (no : PySem.W.findIn K (.ref C) f = some none) (no2 : PySem.W.findIn K (.ref C) g = some none) :
    FnOk P w K mg base CX0 1 fI fd ["self", f, g] (spTwo C f g) := by
  obtain ⟨p1, p2, p3, p4, q1, q2, q3, q4, hb⟩ := hb
  refine F.ok S (fun vs H Q E h => ?_) (fun cdv A outer s H vs Q E hr h => ?_)
  · obtain ⟨a, v, u, rfl, _⟩ := h
    rfl
  · obtain ⟨a, v, u, rfl, ha, k⟩ := h
    rw [hb]
    refine ⟨_, pss_cons (ps_self (pv 0 (hv := visOf S (by simp))) (pv 1 (hv := visOf S (by simp)) (hd := hf) (hcd := hf2)))
      (pss_one (ps_self (pv 0 (hv := visOf S (by simp))) (pv 2 (hv := visOf S (by simp)) (hd := hg) (hcd := hg2)))), ?_⟩
    refine ⟨v, rfl, .ref a, rfl, a, C, rfl, T, no, .inl ⟨ha, fun dx n ne => ?_⟩⟩
    exact ⟨u, rfl, .ref a, rfl, a, C, rfl, T, no2, .inr ⟨dx, _, by rw [upd_ne (Ne.symm ne), upd_same], upd_same, by simp, k dx n ne⟩⟩
end

/-! ### RuntimeError.__init__(self, ..) -/
theorem typRE : typeOf (.type "RuntimeError") = pure (.type "type") := by kernel_rfl
structure ExRt (K : PySem.W.Frag) (C : Addr) : Prop where
  cls : ∃ nm q N bs sn sub ab col dd k0 k1 k2 k3 k5, K.lookup C = some (excClassObj nm q C N bs [.type "RuntimeError", .type "Exception", .type "BaseException", .type "object"] true sn sub ab col dd k0 k1 k2 k3 k5 "RuntimeError.__new__")
section
variable {X : Cx} {pins : List (Addr × Obj)} {σ : L2.St} {H : Hp} {s : Shared} {a C : Addr} {A : Around} {E : Value → Shared → Prop}
theorem initRt {us : List Value} {Q : Value → Shared → Prop} (T : ExRt X.K C) (I : Inv X pins σ H s) (e : H a = some (exo a C none)) (hl : us.length ≤ sizeLine)
    (h : ∀ s', Inv X pins σ H s' → Q .none s') : wpAny (model X.prog X.w) A (call (.builtin "RuntimeError.__init__") (.ref a :: us)) Q E s := by
  obtain ⟨nm, q, N, bs, sn, sub, ab, col, dd, k0, k1, k2, k3, k5, hC⟩ := T.cls
  obtain ⟨t1, ho⟩ := exo_at I.hok e
  have I0 := I
  obtain ⟨hp, g, d, t, os⟩ := s
  refine wpAny_call (PySem.HandSPX.init_base F.excBase_RuntimeError (fun Y => rfl) (I.kIn _ _ hC) ho hl fun h' t2 k hx => ?_)
  have J := I0.write (t' := t) (x := a) (e := a) (o := exo a C none) (by rw [e]; exact True.intro) (.inl rfl) k ⟨_, hx⟩ (exo_ok hx)
  have eu : upd H a (exo a C none) = H := by
    funext b
    by_cases hb : b = a
    · rw [hb, upd_same, e]
    · rw [upd_ne hb]
  rw [eu] at J
  exact h _ J
end
def tRtI (K : PySem.W.Frag) (ta : TA) : TE := fun σ H Q => ta σ H fun vs H1 => ∃ (a C : Addr) (ws : List V), vs = .ref a :: ws ∧ ws.length ≤ 1000 ∧ ExRt K C ∧ H1 a = some (exo a C none) ∧ Q .non H1
section
variable {X : Cx} {e : Expr} {es : List Expr} {ta : TA} {p1 p2 pos : Pos}
theorem pe_rtinit {pl : Sem Bool} (hg : Gl X "RuntimeError") (hm : X.mg "RuntimeError" = none)
    (vV : PySem.W.findCls X.K (.type "RuntimeError") (.type "type") "__init__" = some (.val (.builtin "RuntimeError.__init__"))) (ha : PA X (e :: es) ta)
    (hc : eval (.Call (.Attribute (.Name "RuntimeError" p1) "__init__" p2) (e :: es) [] pos) X.env = (do
      let ov ← eval (.Name "RuntimeError" p1) X.env
      standAt p2.atName
      let (f, first) ← holding [ov] (getMethod ov "__init__" pl)
      callWith pos f first (backTo pos (starEach (e :: es) X.env)) (backToKw pos (keywordEach [] X.env))) := by rfl)
    (he : starEach (e :: es) X.env = (false, eval e X.env) :: starEach es X.env := by rfl) (hpl : (backTo pos (starEach es X.env)).any (·.1) = false := by rfl) :
    PE X (.Call (.Attribute (.Name "RuntimeError" p1) "__init__" p2) (e :: es) [] pos) (tRtI X.K ta) := by
  refine ⟨fun pins s σ H Q I h => ?_⟩
  refine PySem.W.methodCall_KW (ld_blt I hg hm PyProof.Rows.Boot.«RuntimeError» ?_ (by decide) (by decide)) hc
  obtain ⟨m, fr⟩ := I.fr
  refine PySem.W.method_type fr I.ok.mod.kin typRE (by decide +kernel) vV (by decide +kernel) ?_
  show wpAny _ _ (callWith pos (Value.builtin "RuntimeError.__init__") [] (backTo pos (starEach (e :: es) X.env)) []) _ _ _
  refine PyProof.Rows.callWith_method1 (thn (ha.run pos pins _ σ H _ (I.tok _) h) ?_) he hpl
  rintro us s1 ⟨vs, H1, I1, r1, a, C, ws, ev, few, T, ea, q⟩
  subst ev
  cases r1 with
  | @cons _ u0 _ ur ra rw' =>
    obtain rfl : u0 = Value.ref a := ra
    have small : ur.length ≤ sizeLine := by
      rw [← Paired.length rw', sizeLine_eq]
      omega
    exact initRt T I1 ea small fun s' J => ⟨.non, H1, J, rfl, q⟩
end
end My
set_option maxHeartbeats 4000000
/-! short words for own exceptions made as values -/
namespace My
open PySem PySem.Spec PyProof.Rows L2 Evl

theorem peImp {X : Cx} {e : Expr} {t t' : TE} (h : PE X e t) (k : ∀ σ H Q, t' σ H Q → t σ H Q) : PE X e t' := ⟨fun pins s σ H Q I q => h.run pins s σ H Q I (k σ H Q q)⟩

section
variable {K : PySem.W.Frag} {fd : FuncData} {ps : List Str}
theorem kbPos (b : Binds K fd ps []) : KBn K fd ps ps.length [] (fun us _ => us) (fun vs _ => vs) where
  to := fun s us ws inK l1 _ => by
    have q := b s us inK (by rw [List.append_nil]; exact l1)
    rw [List.append_nil] at q
    exact q
  rel := fun r _ => r
end

/-- a class whose __init__ keeps one field -/
structure Mkr (P : Program) (w : World) (K : PySem.W.Frag) (mg : Str → Option Value) (base : Heap) (C : Addr) (f : Str) : Prop where
  ex : ∃ (fI : Addr) (fd : FuncData), ExG K C ∧ PySem.W.findIn K (.ref C) "__init__" = some (some (.ref fI)) ∧ PySem.W.typeIn K (.ref fI) = some (.type "function") ∧
    FnOk P w K mg base CX0 1 fI fd ["self", f] (spOne C f) ∧ KBn K fd ["self", f] 2 [] (fun us _ => us) (fun vs _ => vs) ∧
    KBn K fd ["self", f] 1 [f] (fun us ws => us ++ ws) (fun vs zs => vs ++ zs)
/-- a class whose __init__ keeps two -/
structure Mkr2 (P : Program) (w : World) (K : PySem.W.Frag) (mg : Str → Option Value) (base : Heap) (C : Addr) (f g : Str) : Prop where
  ex : ∃ (fI : Addr) (fd : FuncData), ExG K C ∧ PySem.W.findIn K (.ref C) "__init__" = some (some (.ref fI)) ∧ PySem.W.typeIn K (.ref fI) = some (.type "function") ∧
    FnOk P w K mg base CX0 1 fI fd ["self", f, g] (spTwo C f g) ∧ KBn K fd ["self", f, g] 3 [] (fun us _ => us) (fun vs _ => vs) ∧
    KBn K fd ["self", f, g] 1 [f, g] (fun us ws => us ++ ws) (fun vs zs => vs ++ zs) ∧
    KBn K fd ["self", f, g] 1 [g, f] (fun us ws => us ++ ws.reverse) (fun vs zs => vs ++ zs.reverse)
/-- a class whose __init__ keeps none -/
structure Mkr0 (P : Program) (w : World) (K : PySem.W.Frag) (mg : Str → Option Value) (base : Heap) (C : Addr) : Prop where
  ex : ∃ (fI : Addr) (fd : FuncData), ExG K C ∧ PySem.W.findIn K (.ref C) "__init__" = some (some (.ref fI)) ∧ PySem.W.typeIn K (.ref fI) = some (.type "function") ∧
    FnOk P w K mg base CX0 1 fI fd ["self"] (spNil C) ∧ KBn K fd ["self"] 1 [] (fun us _ => us) (fun vs _ => vs)

/-- what comes of it: a new exception of C, its dict told -/
def EvX (te : TE) (σ : L2.St) (H : Hp) (C : Addr) (fs : List (Str × V)) : Prop := ∀ H1, Ex H H1 → ∀ Q : VK,
  (∀ a dx H2, H1 a = none → Ex H1 H2 → H2 a = some (exo a C (some dx)) → H2 dx = some (exd dx fs) → Q (.ref a) H2) → te σ H1 Q
def EvX0 (te : TE) (σ : L2.St) (H : Hp) (C : Addr) : Prop := ∀ H1, Ex H H1 → ∀ Q : VK, (∀ a H2, H1 a = none → Ex H1 H2 → H2 a = some (exo a C none) → Q (.ref a) H2) → te σ H1 Q

section
variable {σ : L2.St} {H : Hp} {C a : Addr} {f g : Str} {v u : V} {te tu : TE} {Q : VK} {E : XK}
theorem spOneOf (ha : H a = none) (q : ∀ dx H2, Ex H H2 → H2 a = some (exo a C (some dx)) → H2 dx = some (exd dx [(f, v)]) → Q (.ref a) H2) :
    spOne C f [.ref a, v] (upd H a (exo a C none)) (fun w H3 => w = .non ∧ Q (.ref a) H3) E := by
  refine ⟨a, v, rfl, upd_same, fun dx n ne => ⟨rfl, ?_⟩⟩
  rw [upd_upd]
  rw [upd_ne ne] at n
  have n1 : upd H a (exo a C (some dx)) dx = none := by
    rw [upd_ne ne]
    exact n
  exact q dx _ ((Ex.new ha).trans (Ex.new n1)) (by rw [upd_ne (Ne.symm ne), upd_same]) upd_same
theorem spTwoOf (ha : H a = none) (q : ∀ dx H2, Ex H H2 → H2 a = some (exo a C (some dx)) → H2 dx = some (exd dx [(g, u), (f, v)]) → Q (.ref a) H2) :
    spTwo C f g [.ref a, v, u] (upd H a (exo a C none)) (fun w H3 => w = .non ∧ Q (.ref a) H3) E := by
  refine ⟨a, v, u, rfl, upd_same, fun dx n ne => ⟨rfl, ?_⟩⟩
  rw [upd_upd, upd_upd]
  rw [upd_ne ne] at n
  have n1 : upd H a (exo a C (some dx)) dx = none := by
    rw [upd_ne ne]
    exact n
  exact q dx _ ((Ex.new ha).trans (Ex.new n1)) (by rw [upd_ne (Ne.symm ne), upd_same]) upd_same
theorem ex_one (h : Ev te σ H v) : EvX (tMadeK C 1 0 (spOne C f) (fun vs _ => vs) (tCons te tNil) tNil) σ H C [(f, v)] := fun H1 e Q q =>
  h H1 e _ fun H2 e2 => ⟨rfl, rfl, by decide, fun a ha => spOneOf ha fun dx H3 e3 h1 h2 => q a dx H3 (fresh_back e2 ha) (e2.trans e3) h1 h2⟩
theorem ex_oneK (h : Ev te σ H v) : EvX (tMadeK C 0 1 (spOne C f) (fun vs zs => vs ++ zs) tNil (tCons te tNil)) σ H C [(f, v)] := fun H1 e Q q =>
  h H1 e _ fun H2 e2 => ⟨rfl, rfl, by decide, fun a ha => spOneOf ha fun dx H3 e3 h1 h2 => q a dx H3 (fresh_back e2 ha) (e2.trans e3) h1 h2⟩
theorem ex_two (h : Ev te σ H v) (h' : Ev tu σ H u) : EvX (tMadeK C 2 0 (spTwo C f g) (fun vs _ => vs) (tCons te (tCons tu tNil)) tNil) σ H C [(g, u), (f, v)] := fun H1 e Q q =>
  h H1 e _ fun H2 e2 => h' H2 (e.trans e2) _ fun H3 e3 => ⟨rfl, rfl, by decide, fun a ha => spTwoOf ha fun dx H4 e4 h1 h2 => q a dx H4 (fresh_back (e2.trans e3) ha) ((e2.trans e3).trans e4) h1 h2⟩
theorem ex_twoK (h : Ev te σ H v) (h' : Ev tu σ H u) : EvX (tMadeK C 0 2 (spTwo C f g) (fun vs zs => vs ++ zs) tNil (tCons te (tCons tu tNil))) σ H C [(g, u), (f, v)] := fun H1 e Q q =>
  h H1 e _ fun H2 e2 => h' H2 (e.trans e2) _ fun H3 e3 => ⟨rfl, rfl, by decide, fun a ha => spTwoOf ha fun dx H4 e4 h1 h2 => q a dx H4 (fresh_back (e2.trans e3) ha) ((e2.trans e3).trans e4) h1 h2⟩
theorem ex_twoR (h : Ev te σ H v) (h' : Ev tu σ H u) : EvX (tMadeK C 0 2 (spTwo C f g) (fun vs zs => vs ++ zs.reverse) tNil (tCons tu (tCons te tNil))) σ H C [(g, u), (f, v)] := fun H1 e Q q =>
  h' H1 e _ fun H2 e2 => h H2 (e.trans e2) _ fun H3 e3 => ⟨rfl, rfl, by decide, fun a ha => spTwoOf ha fun dx H4 e4 h1 h2 => q a dx H4 (fresh_back (e2.trans e3) ha) ((e2.trans e3).trans e4) h1 h2⟩
theorem ex_nil : EvX0 (tMadeK C 0 0 (spNil C) (fun vs _ => vs) tNil tNil) σ H C := fun H1 e Q q =>
  ⟨rfl, rfl, by decide, fun a ha => ⟨a, rfl, upd_same, rfl, q a _ ha (Ex.new ha) upd_same⟩⟩
end

section
variable {X : Cx} {C : Addr} {x f g : Str} {e d : Expr} {te tu : TE} {p pos kp kq : Pos}
theorem passN : Passes CX0 X (fun _ _ _ => False) := fun _ _ _ _ _ _ _ z => z.elim
/-- C(e) -/
theorem pe_mk1 (M : Mkr X.prog X.w X.K X.mg X.base C f) (hr : Room 2 X.A) (hg : Gl X x) (hm : X.mg x = some (.ref C)) (he : PE X e te) (hdb : (x == ("__debug__" : Str)) = false := by decide)
    (hs : starEach [e] X.env = (false, eval e X.env) :: starEach [] X.env := by rfl) :
    PE X (.Call (.Name x p) [e] [] pos) (tMadeK C 1 0 (spOne C f) (fun vs _ => vs) (tCons te tNil) tNil) := by
  obtain ⟨fI, fd, T, iC, tI, F, b0, b1⟩ := M.ex
  refine pe_madeK (n := 1) (ks := []) T iC tI F hr hg hm b0 passN (pa_cons he pa_nil hs) pk_nil rfl rfl hdb hs ?_
  rw [hs]
  rfl
/-- C(f = e) -/
theorem pe_mk1K (M : Mkr X.prog X.w X.K X.mg X.base C f) (hr : Room 2 X.A) (hg : Gl X x) (hm : X.mg x = some (.ref C)) (he : PE X e te) (hdb : (x == ("__debug__" : Str)) = false := by decide) :
    PE X (.Call (.Name x p) [] [⟨some f, e, kp⟩] pos) (tMadeK C 0 1 (spOne C f) (fun vs zs => vs ++ zs) tNil (tCons te tNil)) := by
  obtain ⟨fI, fd, T, iC, tI, F, b0, b1⟩ := M.ex
  exact pe_madeK0 (ks := [f]) T iC tI F hr hg hm b1 passN (pk_cons he pk_nil) rfl rfl hdb rfl
/-- C(e, d) -/
theorem pe_mk2 (M : Mkr2 X.prog X.w X.K X.mg X.base C f g) (hr : Room 2 X.A) (hg : Gl X x) (hm : X.mg x = some (.ref C)) (he : PE X e te) (hd : PE X d tu) (hdb : (x == ("__debug__" : Str)) = false := by decide)
    (hs : starEach [e, d] X.env = (false, eval e X.env) :: starEach [d] X.env := by rfl) (hs2 : starEach [d] X.env = (false, eval d X.env) :: starEach [] X.env := by rfl) :
    PE X (.Call (.Name x p) [e, d] [] pos) (tMadeK C 2 0 (spTwo C f g) (fun vs _ => vs) (tCons te (tCons tu tNil)) tNil) := by
  obtain ⟨fI, fd, T, iC, tI, F, b0, b1, b2⟩ := M.ex
  refine pe_madeK (n := 2) (ks := []) T iC tI F hr hg hm b0 passN (pa_cons he (pa_cons hd pa_nil hs2) hs) pk_nil rfl rfl hdb hs ?_
  rw [hs, hs2]
  rfl
/-- C(f = e, g = d) -/
theorem pe_mk2K (M : Mkr2 X.prog X.w X.K X.mg X.base C f g) (hr : Room 2 X.A) (hg : Gl X x) (hm : X.mg x = some (.ref C)) (he : PE X e te) (hd : PE X d tu) (hdb : (x == ("__debug__" : Str)) = false := by decide) :
    PE X (.Call (.Name x p) [] [⟨some f, e, kp⟩, ⟨some g, d, kq⟩] pos) (tMadeK C 0 2 (spTwo C f g) (fun vs zs => vs ++ zs) tNil (tCons te (tCons tu tNil))) := by
  obtain ⟨fI, fd, T, iC, tI, F, b0, b1, b2⟩ := M.ex
  exact pe_madeK0 (ks := [f, g]) T iC tI F hr hg hm b1 passN (pk_cons he (pk_cons hd pk_nil)) rfl rfl hdb rfl
/-- C(g = d, f = e) -/
theorem pe_mk2R (M : Mkr2 X.prog X.w X.K X.mg X.base C f g) (hr : Room 2 X.A) (hg : Gl X x) (hm : X.mg x = some (.ref C)) (he : PE X e te) (hd : PE X d tu) (hdb : (x == ("__debug__" : Str)) = false := by decide) :
    PE X (.Call (.Name x p) [] [⟨some g, d, kq⟩, ⟨some f, e, kp⟩] pos) (tMadeK C 0 2 (spTwo C f g) (fun vs zs => vs ++ zs.reverse) tNil (tCons tu (tCons te tNil))) := by
  obtain ⟨fI, fd, T, iC, tI, F, b0, b1, b2⟩ := M.ex
  exact pe_madeK0 (ks := [g, f]) T iC tI F hr hg hm b2 passN (pk_cons hd (pk_cons he pk_nil)) rfl rfl hdb rfl
/-- C() -/
theorem pe_mk0 (M : Mkr0 X.prog X.w X.K X.mg X.base C) (hr : Room 2 X.A) (hg : Gl X x) (hm : X.mg x = some (.ref C)) (hdb : (x == ("__debug__" : Str)) = false := by decide) :
    PE X (.Call (.Name x p) [] [] pos) (tMadeK C 0 0 (spNil C) (fun vs _ => vs) tNil tNil) := by
  obtain ⟨fI, fd, T, iC, tI, F, b0⟩ := M.ex
  exact pe_madeK0 (ks := []) T iC tI F hr hg hm b0 passN pk_nil rfl rfl hdb rfl
end
end My
set_option maxHeartbeats 4000000
/-! what repr, attributes, comparisons and enumerate come to, in the words of Evl -/
namespace My
open PySem PySem.Spec PyProof.Rows L2 Evl

/-- v stands for d, and d can be shown in short -/
structure Gd (K : PySem.W.Frag) (H : Hp) (v : V) (d : PyData) : Prop where
  dd : Dd K H v d
  sh : d.showable = true
  sz : d.shown.length ≤ 2000
  dp : d.depth ≤ 10
  nd : d.hasDict = false ∨ d = .dict []
section
variable {K : PySem.W.Frag} {H H' : Hp} {σ : L2.St} {v x y : V} {d : PyData} {te ta tb : TE}
theorem Gd.ext (g : Gd K H v d) (e : Ex H H') : Gd K H' v d := ⟨Dd.ext e d v g.dd, g.sh, g.sz, g.dp, g.nd⟩
theorem ev_repr (h : Ev te σ H v) (g : Gd K H v d) : Ev (tCB (rRepr K) (tCons te tNil)) σ H (.str d.shown) := fun H1 e Q q =>
  h H1 e _ fun H2 e2 => ⟨v, d, rfl, .inr ⟨(g.ext (e.trans e2)).dd, g.nd⟩, g.sh, Nat.le_trans g.sz (by decide), Nat.le_trans g.dp (by decide), q H2 e2⟩
/-- repr of a list that is written there -/
theorem ev_reprL {ta : TA} {vs : List V} {ds : List PyData} (h : EvA ta σ H vs) (hd : Dds K H vs ds) (hz : vs.length ≤ 1000) (sh : (PyData.list ds).showable = true) (sz : (PyData.list ds).shown.length ≤ 10000) (dp : (PyData.list ds).depth ≤ 30) (nd : (PyData.list ds).hasDict = false) :
    Ev (tCB (rRepr K) (tCons (tLstB ta) tNil)) σ H (.str (PyData.list ds).shown) := fun H1 e Q q =>
  h H1 e _ fun H2 e2 => ⟨sz_of (by omega), fun p hp np => by
    have eN : Ex H2 (upd H2 p (.lst vs)) := Ex.new hp
    exact ⟨.ref p, .list ds, rfl, .inr ⟨.lst (SqL.of upd_same) (Dds.ext ((e.trans e2).trans eN) ds vs hd), .inl nd⟩, sh, Nat.le_trans sz (by decide), Nat.le_trans dp (by decide), q _ (e2.trans eN)⟩⟩
theorem ev_exAt {a C dx : Addr} {f : Str} {fs : List (Str × V)} (h : Ev te σ H (.ref a)) (R : ExR K C) (no : PySem.W.findIn K (.ref C) f = some none)
    (h1 : H a = some (exo a C (some dx))) (h2 : H dx = some (exd dx fs)) (el : fs.lookup f = some v) : Ev (tExAt K f te) σ H v := fun H1 e Q q =>
  h H1 e _ fun H2 e2 => ⟨a, C, dx, fs, v, rfl, R, no, e2 _ _ (e _ _ h1), e2 _ _ (e _ _ h2), el, q H2 e2⟩
theorem rv_neSame (h1 : ∀ H', Ex H H' → Dp K H' x d) (h2 : ∀ H', Ex H H' → Dp K H' y d) (s : SeqAt.shaped d = true) : RV (rNeD K) x y H (.bl false) := fun H1 e Q q =>
  ⟨d, d, h1 H1 e, h2 H1 e, s, s, by
    rw [PySem.SeqAt.eqv_refl d (PySem.SeqAt.canLay_of_shaped s)]
    exact q H1 (Ex.refl H1)⟩
theorem rv_eqSame (h1 : ∀ H', Ex H H' → Dp K H' x d) (h2 : ∀ H', Ex H H' → Dp K H' y d) (s : SeqAt.shaped d = true) : RV (rEqD K) x y H (.bl true) := fun H1 e Q q =>
  ⟨d, d, h1 H1 e, h2 H1 e, s, s, by
    rw [PySem.SeqAt.eqv_refl d (PySem.SeqAt.canLay_of_shaped s)]
    exact q H1 (Ex.refl H1)⟩
theorem dpBools : ∀ (bs : List Bool), DpAll K H (bs.map V.bl) (bs.map PyData.bool)
  | [] => .nil
  | b :: r => .cons (.bl b) (dpBools r)
theorem dpInts : ∀ (ns : List Int), DpAll K H (ns.map V.int) (ns.map PyData.int)
  | [] => .nil
  | b :: r => .cons (.int b) (dpInts r)
theorem dp_bools {p : Addr} {bs : List Bool} (h : H p = some (.lst (bs.map V.bl))) : Dp K H (.ref p) (.list (bs.map PyData.bool)) := .lst (SqL.of h) (dpBools bs)
theorem dp_ints {p : Addr} {ns : List Int} (h : H p = some (.lst (ns.map V.int))) : Dp K H (.ref p) (.list (ns.map PyData.int)) := .lst (SqL.of h) (dpInts ns)
theorem ev_min2 {i j : Int} (ha : Ev ta σ H (.int i)) (hb : Ev tb σ H (.int j)) : Ev (tCB (fun xs H Q => ∃ i j, xs = [.int i, .int j] ∧ Q (.int (if j < i then j else i)) H) (tCons ta (tCons tb tNil))) σ H (.int (if j < i then j else i)) := fun H1 e Q q =>
  ha H1 e _ fun H2 e2 => hb H2 (e.trans e2) _ fun H3 e3 => ⟨i, j, rfl, q H3 (e2.trans e3)⟩
end

/-- for i, x in enumerate(a list that stands) -/
theorem for_enum {K : PySem.W.Frag} {a : Addr} {xs : List V} {g : TG} {tb : TS} {D : Ends} {σ : L2.St} {H : Hp} (Pv : Nat → L2.St → Hp → Prop) (h0 : Pv 0 σ H) (hl : ∀ i σ H, i ≤ xs.length → Pv i σ H → SqL K H a xs)
    (hs : ∀ i x σ H T, xs[i]? = some x → Pv i σ H → H T = none → g (.ref T) σ (upd H T (.tup [.int (i : Nat), x])) fun σ2 H2 => tb { D with nx := Pv (i + 1), ct := Pv (i + 1), bk := D.nx } σ2 H2) (hd : ∀ σ H, Pv xs.length σ H → D.nx σ H) :
    ∃ W : Nat → Nat → L2.St → Hp → Prop, (∃ m, W 0 m σ H) ∧ ∀ i m σ H, W i m σ H →
      ((Ite K a).stop i H ∧ D.nx σ H) ∨ ((Ite K a).go i H ∧ ∃ N : L2.St → Hp → Prop, (∀ σ' H', N σ' H' → ∃ m', m' < m ∧ W (i + 1) m' σ' H') ∧
        ∀ x H', (Ite K a).yld i H x H' → g x σ H' fun σ2 H2 => tb { D with nx := N, ct := N, bk := D.nx } σ2 H2) := by
  refine ⟨fun i m σ H => m = xs.length - i ∧ i ≤ xs.length ∧ Pv i σ H, ⟨xs.length, by simp, Nat.zero_le _, h0⟩, ?_⟩
  rintro i m σ H ⟨rfl, hi, p⟩
  have q := hl i σ H hi p
  by_cases lt : i < xs.length
  · refine .inr ⟨⟨xs, xs[i], q, by simp [lt]⟩, Pv (i + 1), fun σ' H' p' => ⟨xs.length - (i + 1), by omega, rfl, lt, p'⟩, ?_⟩
    rintro x H' ⟨T, y, rfl, hT, rfl, hy⟩
    exact hs i y σ H T (hy xs q) p hT
  · have e : i = xs.length := by omega
    subst e
    exact .inl ⟨⟨xs, q, Nat.le_refl _⟩, hd σ H p⟩
end My
namespace My
open PySem PySem.Spec PyProof.Rows L2 Evl
/-- a def of the module, its promise, as a constant -/
structure Df (P : Program) (w : World) (K : PySem.W.Frag) (mg : Str → Option Value) (base : Heap) (x : Str) (ps : List Str) (k : Nat) (sp : Sp) : Prop where
  ex : ∃ (f : Addr) (fd : FuncData), mg x = some (.ref f) ∧ PySem.W.keepIn K (.ref f) = true ∧ FnOk P w K mg base CX0 k f fd ps sp ∧ Binds K fd ps []
theorem pe_df {X : Cx} {x : Str} {ps : List Str} {k : Nat} {sp : Sp} {e : Expr} {es : List Expr} {t : TA} {p pos : Pos} (D : Df X.prog X.w X.K X.mg X.base x ps k sp) (hr : Room k X.A) (hg : Gl X x) (ha : PA X (e :: es) t)
    (hdb : (x == ("__debug__" : Str)) = false := by decide) (he : starEach (e :: es) X.env = (false, eval e X.env) :: starEach es X.env := by rfl) (hpl : (backTo pos (starEach es X.env)).any (·.1) = false := by rfl) :
    PE X (.Call (.Name x p) (e :: es) [] pos) (tCall sp [] E0 t) := by
  obtain ⟨f, fd, hm, hk, F, b⟩ := D.ex
  exact pe_call F hr hg hm hk b .nil pass0 ha hdb he hpl
section
variable {σ : L2.St} {H : Hp} {ta tb : TE} {xs : List V}
theorem el_rep {k : Int} (ha : EvL ta σ H xs) (hb : ∀ H1, Ex H H1 → Ev tb σ H1 (.int k)) (h : -(2 ^ 63) ≤ k ∧ k < 2 ^ 63) (z : xs.length * k.toNat ≤ 100000) : EvL (tOp rRep ta tb) σ H (List.replicate k.toNat xs).flatten := fun H1 e Q q =>
  ha H1 e _ fun l H2 _ e2 h2 => hb H2 (e.trans e2) H2 (Ex.refl H2) _ fun H3 e3 =>
    ⟨l, k, xs, rfl, rfl, e3 l _ h2, h.1, h.2, sz_of z, fun r hr => q r _ (fresh_back (e2.trans e3) hr) ((e2.trans e3).trans (Ex.new hr)) upd_same⟩
end
end My
namespace My
open PySem PySem.Spec PyProof.Rows L2 Evl
/-- a row of new exceptions of one class, all with the same fields -/
def EvXr (C : Addr) (ta : TA) (σ : L2.St) (H : Hp) (fs : List (Str × V)) (n : Nat) : Prop := ∀ H1, Ex H H1 → ∀ Q : List V → Hp → Prop,
  (∀ (as : List Addr) (H2 : Hp), Ex H1 H2 → as.length = n → (∀ (m : Nat) (a : Addr), as[m]? = some a → ∃ dx, H2 a = some (exo a C (some dx)) ∧ H2 dx = some (exd dx fs)) → Q (as.map V.ref) H2) → ta σ H1 Q
section
variable {C : Addr} {te : TE} {ta : TA} {σ : L2.St} {H : Hp} {fs : List (Str × V)} {n : Nat} {K : PySem.W.Frag} {tu tz : TS} {D : Ends} {j : Nat}
theorem exr_nil : EvXr C tNil σ H fs 0 := fun H1 e Q q => q [] H1 (Ex.refl H1) rfl fun m a h => by simp at h
theorem exr_cons (h : EvX te σ H C fs) (hr : EvXr C ta σ H fs n) : EvXr C (tCons te ta) σ H fs (n + 1) := fun H1 e Q q =>
  h H1 e _ fun a dx H2 _ e2 h1 h2 => hr H2 (e.trans e2) _ fun bs H3 e3 hl x => q (a :: bs) H3 (e2.trans e3) (by rw [List.length_cons, hl]) fun k b hb => by
    cases k with
    | zero =>
      have z : a = b := by simpa using hb
      subst z
      exact ⟨dx, e3 _ _ h1, e3 _ _ h2⟩
    | succ k => exact x k b (by simpa using hb)
/-- for e in [C(..), C(..)] -/
theorem s_forX (h : EvXr C ta σ H fs n) (hn : n ≤ 1000) (S : L2.St → Prop) (s0 : S σ)
    (hs : ∀ a dx σ' H', Ex H H' → H' a = some (exo a C (some dx)) → H' dx = some (exd dx fs) → S σ' → ∀ N : L2.St → Hp → Prop, (∀ σ2 H2, Ex H' H2 → S σ2 → N σ2 H2) →
      tu { D with nx := N, ct := N, bk := D.nx } (σ'.set j (some (.ref a))) H')
    (hd : ∀ σ' H', Ex H H' → S σ' → D.nx σ' H') : tFor (iList K (tLst ta)) (gName j) tu D σ H :=
  h H (Ex.refl H) _ fun as H1 e1 hl x => ⟨by rw [List.length_map, hl]; exact sz_of (by omega), fun L nL => ⟨L, rfl, ⟨_, SqL.of upd_same⟩,
    for_list (K := K) (a := L) (xs := as.map V.ref) (fun _ σ' H' => Ex (upd H1 L (.lst (as.map V.ref))) H' ∧ S σ') ⟨Ex.refl _, s0⟩ (fun _ σ' H' _ q => ex_l q.1 (SqL.of upd_same))
      (fun m v σ' H' hv q => by
        obtain ⟨a, ha, rfl⟩ : ∃ a, as[m]? = some a ∧ v = .ref a := by
          rw [List.getElem?_map] at hv
          cases z : as[m]? with
          | none =>
            rw [z] at hv
            cases hv
          | some u =>
            rw [z] at hv
            exact ⟨u, rfl, (Option.some.inj hv).symm⟩
        obtain ⟨dx, h1, h2⟩ := x m a ha
        have eN : Ex H1 (upd H1 L (.lst (as.map V.ref))) := Ex.new nL
        exact hs a dx σ' H' ((e1.trans eN).trans q.1) (q.1 _ _ (eN _ _ h1)) (q.1 _ _ (eN _ _ h2)) q.2 _ fun σ2 H2 e2 s2 => ⟨q.1.trans e2, s2⟩)
      fun σ' H' q => hd σ' H' ((e1.trans (Ex.new nL)).trans q.1) q.2⟩⟩
theorem q_forX (h : EvXr C ta σ H fs n) (hn : n ≤ 1000) (S : L2.St → Prop) (s0 : S σ)
    (hs : ∀ a dx σ' H', Ex H H' → H' a = some (exo a C (some dx)) → H' dx = some (exd dx fs) → S σ' → ∀ N : L2.St → Hp → Prop, (∀ σ2 H2, Ex H' H2 → S σ2 → N σ2 H2) →
      tu { D with nx := N, ct := N, bk := tz D } (σ'.set j (some (.ref a))) H')
    (hd : ∀ σ' H', Ex H H' → S σ' → tz D σ' H') : tSeq (tFor (iList K (tLst ta)) (gName j) tu) tz D σ H := s_forX (D := { D with nx := tz D }) h hn S s0 hs hd
end
end My
set_option maxHeartbeats 4000000
/-! evaluation told in data: which datum a value stands for, not where it lies -/
namespace My
open PySem PySem.Spec PyProof.Rows L2 Evl
/-- the class of a datum -/
def tyD : PyData → String
  | .none => "NoneType"
  | .bool _ => "bool"
  | .int _ => "int"
  | .str _ => "str"
  | .list _ => "list"
  | .tuple _ => "tuple"
  | .dict _ => "dict"
theorem Dd.ty {K : PySem.W.Frag} {H : Hp} {v : V} {d : PyData} (h : Dd K H v d) : TyX K H v (.type (tyD d)) := by
  cases h with
  | non => exact .base .non
  | bl b => exact .base (.bl b)
  | int i => exact .base (.int i)
  | str x => exact .base (.str x)
  | lst hs ha =>
    rcases hs with (h | ⟨o, h⟩) | ⟨o, its, n, hk, hc, _⟩
    · exact .base (.lst h)
    · exact .base (.frz h)
    · exact .kList hk hc
  | tup hs ha =>
    rcases hs with (h | ⟨o, h⟩) | ⟨o, its, n, hk, hc, _⟩
    · exact .base (.tup h)
    · exact .fTuple h
    · exact .kTuple hk hc
  | dct h => exact .base (.dK h)
theorem Dds.len {K : PySem.W.Frag} {H : Hp} : ∀ {vs : List V} {ds : List PyData}, Dds K H vs ds → vs.length = ds.length
  | _, _, .nil => rfl
  | _, _, .cons _ t => by rw [List.length_cons, List.length_cons, t.len]
theorem Dds.get {K : PySem.W.Frag} {H : Hp} : ∀ {vs : List V} {ds : List PyData}, Dds K H vs ds → ∀ {i : Nat} {v : V}, vs[i]? = some v → ∃ d, ds[i]? = some d ∧ Dd K H v d
  | _, _, .nil, i, v, h => by simp at h
  | _, _, .cons h t, 0, v, e => by
    simp at e
    subst e
    exact ⟨_, rfl, h⟩
  | _, _, .cons h t, i + 1, v, e => by
    simp at e
    obtain ⟨d, e1, e2⟩ := t.get e
    exact ⟨d, by simpa using e1, e2⟩
theorem Dds.at {K : PySem.W.Frag} {H : Hp} : ∀ {vs : List V} {ds : List PyData}, Dds K H vs ds → ∀ {i : Nat} {d : PyData}, ds[i]? = some d → ∃ v, vs[i]? = some v ∧ Dd K H v d
  | _, _, .nil, i, d, h => by simp at h
  | _, _, .cons h t, 0, d, e => by
    simp at e
    subst e
    exact ⟨_, rfl, h⟩
  | _, _, .cons h t, i + 1, d, e => by
    simp at e
    obtain ⟨v, e1, e2⟩ := t.at e
    exact ⟨v, by simpa using e1, e2⟩
theorem Dds.app {K : PySem.W.Frag} {H : Hp} : ∀ {vs ws : List V} {ds es : List PyData}, Dds K H vs ds → Dds K H ws es → Dds K H (vs ++ ws) (ds ++ es)
  | _, _, _, _, .nil, t => t
  | _, _, _, _, .cons h r, t => .cons h (Dds.app r t)
theorem Dds.strs {K : PySem.W.Frag} {H : Hp} : ∀ (ys : List Str), Dds K H (ys.map V.str) (ys.map PyData.str)
  | [] => .nil
  | y :: ys => .cons (.str y) (Dds.strs ys)
theorem Dds.bls {K : PySem.W.Frag} {H : Hp} : ∀ {vs : List V} {bs : List Bool}, Dds K H vs (bs.map PyData.bool) → vs = bs.map V.bl
  | _, [], .nil => rfl
  | _, b :: bs, .cons h t => by
    cases h
    rw [List.map_cons, t.bls]
theorem Dds.txts {K : PySem.W.Frag} {H : Hp} : ∀ {vs : List V} {ys : List Str}, Dds K H vs (ys.map PyData.str) → vs = ys.map V.str
  | _, [], .nil => rfl
  | _, y :: ys, .cons h t => by
    cases h
    rw [List.map_cons, t.txts]

mutual
/-- no list, no dict within -/
def noList : PyData → Bool
  | .none => true
  | .bool _ => true
  | .int _ => true
  | .str _ => true
  | .tuple ds => noLists ds
  | .list _ => false
  | .dict _ => false
def noLists : List PyData → Bool
  | [] => true
  | d :: ds => noList d && noLists ds
end
mutual
/-- such a datum does not hang on what a list holds -/
theorem Dd.upd {K : PySem.W.Frag} {H : Hp} {a : Addr} {xs : List V} {o : HO} (h : H a = some (.lst xs)) : ∀ (d : PyData) (v : V), noList d = true → Dd K H v d → Dd K (L2.upd H a o) v d
  | .none, _, _, g => by
    cases g
    exact .non
  | .bool b, _, _, g => by
    cases g
    exact .bl b
  | .int i, _, _, g => by
    cases g
    exact .int i
  | .str x, _, _, g => by
    cases g
    exact .str x
  | .tuple ds, _, n, g => by
    cases g with
    | @tup b ys _ hs ha =>
      refine .tup ?_ (Dds.upd h ds _ n ha)
      have ne : ∀ {u : HO}, H b = some u → (∀ zs, u ≠ .lst zs) → L2.upd H a o b = some u := fun {u} hb nz => by
        rw [upd_ne (fun z => ?_)]
        · exact hb
        · rw [z, h] at hb
          exact nz xs (Option.some.inj hb).symm
      rcases hs with (hb | ⟨ob, hb⟩) | hb
      · exact .inl (.inl (ne hb (fun _ z => nomatch z)))
      · exact .inl (.inr ⟨ob, ne hb (fun _ z => nomatch z)⟩)
      · exact .inr hb
  | .list _, _, n, _ => by cases n
  | .dict _, _, n, _ => by cases n
theorem Dds.upd {K : PySem.W.Frag} {H : Hp} {a : Addr} {xs : List V} {o : HO} (h : H a = some (.lst xs)) : ∀ (ds : List PyData) (vs : List V), noLists ds = true → Dds K H vs ds → Dds K (L2.upd H a o) vs ds
  | [], _, _, g => by
    cases g
    exact .nil
  | d :: ds, _, n, g => by
    cases g with
    | cons g1 g2 =>
      have n2 : (noList d && noLists ds) = true := n
      rw [Bool.and_eq_true] at n2
      exact .cons (Dd.upd h d _ n2.1 g1) (Dds.upd h ds _ n2.2 g2)
end
theorem noLists_of : ∀ {ds : List PyData}, (∀ d ∈ ds, noList d = true) → noLists ds = true
  | [], _ => rfl
  | d :: ds, h => by
    show (noList d && noLists ds) = true
    rw [h d (List.mem_cons_self ..), noLists_of fun d' h' => h d' (List.mem_cons_of_mem _ h')] <;> rfl

def EvD (K : PySem.W.Frag) (te : TE) (σ : L2.St) (H : Hp) (d : PyData) : Prop := ∀ H1, Ex H H1 → ∀ Q : VK, (∀ v H2, Ex H1 H2 → Dd K H2 v d → Q v H2) → te σ H1 Q
def EvDs (K : PySem.W.Frag) (ta : TA) (σ : L2.St) (H : Hp) (ds : List PyData) : Prop := ∀ H1, Ex H H1 → ∀ Q : List V → Hp → Prop, (∀ vs H2, Ex H1 H2 → Dds K H2 vs ds → Q vs H2) → ta σ H1 Q
/-- a new list of these data -/
def EvDL (K : PySem.W.Frag) (te : TE) (σ : L2.St) (H : Hp) (ds : List PyData) : Prop := ∀ H1, Ex H H1 → ∀ Q : VK, (∀ p xs H2, H1 p = none → Ex H1 H2 → H2 p = some (.lst xs) → Dds K H2 xs ds → Q (.ref p) H2) → te σ H1 Q
/-- a def that answers a datum to data -/
def SpD (K : PySem.W.Frag) (sp : Sp) (ds : List PyData) (r : PyData) : Prop := ∀ vs H, Dds K H vs ds → ∀ Q : VK, (∀ v H', Ex H H' → Dd K H' v r → Q v H') → ∀ E : XK, sp vs H Q E
def spD (K : PySem.W.Frag) (ok : List PyData → Prop) (F : List PyData → PyData) : Sp := fun vs H Q _ => ∃ ds, Dds K H vs ds ∧ ok ds ∧ ∀ v H', Ex H H' → Dd K H' v (F ds) → Q v H'
theorem spD_ok {K : PySem.W.Frag} {ok : List PyData → Prop} {F : List PyData → PyData} {ds : List PyData} {r : PyData} (h : ok ds) (e : F ds = r) : SpD K (spD K ok F) ds r := fun vs H dd Q q E => ⟨ds, dd, h, by rw [e]; exact q⟩

section
variable {K : PySem.W.Frag} {H H' : Hp} {σ : L2.St} {v x y : V} {d : PyData} {ds : List PyData} {te ta tb : TE} {tas : TA} {i : Nat} {D : Ends}
theorem EvD.mono (e : Ex H H') (h : EvD K te σ H d) : EvD K te σ H' d := fun H1 a Q q => h H1 (e.trans a) Q q
theorem ed_of (h : Ev te σ H v) (g : Dd K H v d) : EvD K te σ H d := fun H1 e Q q => h H1 e Q fun H2 e2 => q v H2 e2 (Dd.ext (e.trans e2) d v g)
theorem ed_var (h : σ[i]? = some (some v)) (g : Dd K H v d) : EvD K (tVar i) σ H d := ed_of (ev_var h) g
theorem ed_str {z : Str} (h : Ev te σ H (.str z)) : EvD K te σ H (.str z) := ed_of h (.str z)
theorem ed_int {z : Int} (h : Ev te σ H (.int z)) : EvD K te σ H (.int z) := ed_of h (.int z)
theorem ed_bl {z : Bool} (h : Ev te σ H (.bl z)) : EvD K te σ H (.bool z) := ed_of h (.bl z)
theorem ed_non (h : Ev te σ H .non) : EvD K te σ H .none := ed_of h .non
theorem EvD.str {z : Str} (h : EvD K te σ H (.str z)) : Ev te σ H (.str z) := fun H1 e Q q => h H1 e Q fun v H2 e2 dd => by
  cases dd
  exact q H2 e2
theorem EvD.int {z : Int} (h : EvD K te σ H (.int z)) : Ev te σ H (.int z) := fun H1 e Q q => h H1 e Q fun v H2 e2 dd => by
  cases dd
  exact q H2 e2
theorem EvD.bl {z : Bool} (h : EvD K te σ H (.bool z)) : Ev te σ H (.bl z) := fun H1 e Q q => h H1 e Q fun v H2 e2 dd => by
  cases dd
  exact q H2 e2
theorem EvD.non (h : EvD K te σ H .none) : Ev te σ H .non := fun H1 e Q q => h H1 e Q fun v H2 e2 dd => by
  cases dd
  exact q H2 e2
theorem ed_is {d' : PyData} (h : EvD K te σ H d) (e : d = d') : EvD K te σ H d' := by
  subst e
  exact h
theorem eds_nil : EvDs K tNil σ H [] := fun H1 _ _ q => q [] H1 (Ex.refl H1) .nil
theorem eds_cons {tr : TA} (h : EvD K ta σ H d) (hr : EvDs K tr σ H ds) : EvDs K (tCons ta tr) σ H (d :: ds) := fun H1 e Q q =>
  h H1 e _ fun v H2 e2 g => hr H2 (e.trans e2) _ fun vs H3 e3 gs => q (v :: vs) H3 (e2.trans e3) (.cons (Dd.ext e3 _ _ g) gs)
theorem ed_tup (h : EvDs K tas σ H ds) (hl : ds.length ≤ 100000) : EvD K (tTup tas) σ H (.tuple ds) := fun H1 e Q q =>
  h H1 e _ fun vs H2 e2 g => ⟨sz_of (by rw [g.len]; exact hl), fun p hp => q (.ref p) _ (e2.trans (Ex.new hp)) (.tup (st_of upd_same) (Dds.ext (Ex.new hp) _ _ g))⟩
theorem ed_lst (h : EvDs K tas σ H ds) (hl : ds.length ≤ 100000) : EvD K (tLstB tas) σ H (.list ds) := fun H1 e Q q =>
  h H1 e _ fun vs H2 e2 g => ⟨sz_of (by rw [g.len]; exact hl), fun p hp hs => q (.ref p) _ (e2.trans (Ex.new hp)) (.lst (sq_of upd_same) (Dds.ext (Ex.new hp) _ _ g))⟩
theorem edl_lst (h : EvDs K tas σ H ds) (hl : ds.length ≤ 100000) : EvDL K (tLst tas) σ H ds := fun H1 e Q q =>
  h H1 e _ fun vs H2 e2 g => ⟨sz_of (by rw [g.len]; exact hl), fun p hp => q p vs _ (fresh_back e2 hp) (e2.trans (Ex.new hp)) upd_same (Dds.ext (Ex.new hp) _ _ g)⟩
theorem ed_call {sp : Sp} {r : PyData} {E : XK} (h : EvDs K tas σ H ds) (hs : SpD K sp ds r) : EvD K (tCall sp [] E tas) σ H r := fun H1 e Q q =>
  h H1 e _ fun vs H2 e2 g => hs (vs ++ []) H2 (by rw [List.append_nil]; exact g) Q (fun v H3 e3 g3 => q v H3 (e2.trans e3) g3) E
/-- isinstance(e, n) -/
theorem ed_isi {n : String} {b : Bool} (h : EvD K te σ H d) (e : kitB (tyD d) n = some b) : Ev (tCB (rIsi K) (tCons te (tCons (tC (.ty n)) tNil))) σ H (.bl b) := fun H1 e1 Q q =>
  h H1 e1 _ fun v H2 e2 g => ⟨v, .ty n, .type (tyD d), .type n, b, rfl, .ty n, g.ty, kit_ty e, q H2 e2⟩
/-- len(e) of a tuple or a text -/
def rLenD (K : PySem.W.Frag) : List V → Hp → VK → Prop := fun xs H Q => ∃ x n, xs = [x] ∧ LenV K x H n ∧ Q (.int n) H
theorem ed_lenT (h : EvD K te σ H (.tuple ds)) : Ev (tCB (rLenD K) (tCons te tNil)) σ H (.int (ds.length : Int)) := fun H1 e1 Q q =>
  h H1 e1 _ fun v H2 e2 g => by
    cases g with
    | tup hs ha => exact ⟨_, ds.length, rfl, .inr ⟨_, hs, ha.len.symm⟩, q H2 e2⟩
theorem ed_lenS {z : Str} (h : Ev te σ H (.str z)) (hz : z.length ≤ 100000) : Ev (tCB (rLenD K) (tCons te tNil)) σ H (.int (z.length : Int)) := fun H1 e1 Q q =>
  h H1 e1 _ fun H2 e2 => ⟨_, z.length, rfl, ⟨sz_of hz, rfl⟩, q H2 e2⟩
theorem ed_lenL {p : Addr} {xs : List V} (h : Ev te σ H (.ref p)) (hx : SqL K H p xs) : Ev (tCB (rLenD K) (tCons te tNil)) σ H (.int (xs.length : Int)) := fun H1 e1 Q q =>
  h H1 e1 _ fun H2 e2 => ⟨_, xs.length, rfl, .inl ⟨xs, ex_l (e1.trans e2) hx, rfl⟩, q H2 e2⟩
/-- e[j] of a tuple -/
theorem ed_ixT {j : Nat} (h : EvD K ta σ H (.tuple ds)) (hi : ∀ H1, Ex H H1 → Ev tb σ H1 (.int (j : Int))) (hd : ds[j]? = some d) : EvD K (tOp (rIxT K) ta tb) σ H d := fun H1 e1 Q q =>
  h H1 e1 _ fun v H2 e2 g => hi H2 (e1.trans e2) H2 (Ex.refl _) _ fun H3 e3 => by
    cases g with
    | @tup a xs _ hs ha =>
      obtain ⟨x, hx, gx⟩ := ha.at hd
      have lt : j < xs.length := (List.getElem?_eq_some_iff.mp hx).1
      exact ⟨a, xs, (j : Int), x, rfl, rfl, ex_t e3 hs, atI_nat hx, q x H3 (e2.trans e3) (Dd.ext e3 _ _ gx)⟩

/-! statements -/
theorem s_asgD (h : EvD K te σ H d) (k : ∀ v H1, Ex H H1 → Dd K H1 v d → D.nx (σ.set i (some v)) H1) : tAsg te (gName i) D σ H := h H (Ex.refl H) _ fun v H1 e g => k v H1 e g
theorem q_asgD {tz : TS} (h : EvD K te σ H d) (k : ∀ v H1, Ex H H1 → Dd K H1 v d → tz D (σ.set i (some v)) H1) : tSeq (tAsg te (gName i)) tz D σ H := s_asgD (D := { D with nx := tz D }) h k
theorem s_asgDL (h : EvDL K te σ H ds) (k : ∀ p xs H1, H p = none → Ex H H1 → H1 p = some (.lst xs) → Dds K H1 xs ds → D.nx (σ.set i (some (.ref p))) H1) : tAsg te (gName i) D σ H := h H (Ex.refl H) _ fun p xs H1 hp e h1 g => k p xs H1 hp e h1 g
theorem q_asgDL {tz : TS} (h : EvDL K te σ H ds) (k : ∀ p xs H1, H p = none → Ex H H1 → H1 p = some (.lst xs) → Dds K H1 xs ds → tz D (σ.set i (some (.ref p))) H1) : tSeq (tAsg te (gName i)) tz D σ H := s_asgDL (D := { D with nx := tz D }) h k
theorem s_retD (h : EvD K te σ H d) (k : ∀ v H1, Ex H H1 → Dd K H1 v d → D.rt v H1) : tRet te D σ H := h H (Ex.refl H) _ fun v H1 e g => k v H1 e g

/-! what is walked, by data -/
def EvIt (K : PySem.W.Frag) (wi : TI) (σ : L2.St) (H : Hp) (ds : List PyData) : Prop := ∀ H1, Ex H H1 → ∀ R : It → Hp → Prop,
  (∀ J H2, Ex H1 H2 → Walk J ds.length (fun H' => Ex H2 H') (fun i Hh x H' => H' = Hh ∧ ∃ d, ds[i]? = some d ∧ Dd K Hh x d) → R J H2) → wi σ H1 R
theorem walk_L {a : Addr} {xs : List V} (hx : SqL K H a xs) (g : Dds K H xs ds) : Walk (Itl K a) ds.length (fun H' => Ex H H') (fun i Hh x H' => H' = Hh ∧ ∃ d, ds[i]? = some d ∧ Dd K Hh x d) := by
  rw [← g.len]
  exact walk_list.mono (fun H' e => ex_l e hx) fun i Hh x H' _ e y => ⟨y.1, (Dds.ext e _ _ g).get y.2⟩
theorem walk_T {a : Addr} {xs : List V} (hx : SqT K H a xs) (g : Dds K H xs ds) : Walk (Itt K a) ds.length (fun H' => Ex H H') (fun i Hh x H' => H' = Hh ∧ ∃ d, ds[i]? = some d ∧ Dd K Hh x d) := by
  rw [← g.len]
  exact walk_tup.mono (fun H' e => ex_t e hx) fun i Hh x H' _ e y => ⟨y.1, (Dds.ext e _ _ g).get y.2⟩
def signsD (z : Str) : List PyData := z.cps.toList.map fun c => .str ⟨#[c]⟩
theorem walk_S {z : Str} : Walk (Its z) (signsD z).length (fun H' => Ex H H') (fun i Hh x H' => H' = Hh ∧ ∃ d, (signsD z)[i]? = some d ∧ Dd K Hh x d) := by
  have e : (signsD z).length = z.cps.size := by simp [signsD]
  rw [e]
  refine walk_str.mono (fun _ _ => True.intro) fun i Hh x H' _ _ y => ?_
  obtain ⟨y1, c, y2, rfl⟩ := y
  exact ⟨y1, .str ⟨#[c]⟩, by simp [signsD, y2], .str _⟩
theorem it_L {tl : TE} {a : Addr} {xs : List V} (h : Ev tl σ H (.ref a)) (hx : SqL K H a xs) (g : Dds K H xs ds) : EvIt K (iList K tl) σ H ds := fun H1 e R k =>
  h H1 e _ fun H2 e2 => ⟨a, rfl, ⟨xs, ex_l (e.trans e2) hx⟩, k _ H2 e2 (walk_L (ex_l (e.trans e2) hx) (Dds.ext (e.trans e2) _ _ g))⟩
theorem it_NL {tl : TE} (h : EvDL K tl σ H ds) : EvIt K (iList K tl) σ H ds := fun H1 e R k =>
  h H1 e _ fun p xs H2 hp e2 hx g => ⟨p, rfl, ⟨xs, sq_of hx⟩, k _ H2 e2 (walk_L (sq_of hx) g)⟩
theorem it_T {tl : TE} (h : EvD K tl σ H (.tuple ds)) : EvIt K (iTup K tl) σ H ds := fun H1 e R k =>
  h H1 e _ fun v H2 e2 g => by
    cases g with
    | @tup a xs _ hs ha => exact ⟨a, rfl, ⟨xs, hs⟩, k _ H2 e2 (walk_T hs ha)⟩
theorem it_S {tl : TE} {z : Str} (h : Ev tl σ H (.str z)) : EvIt K (iStr tl) σ H (signsD z) := fun H1 e R k => h H1 e _ fun H2 e2 => ⟨z, rfl, k _ H2 e2 walk_S⟩
theorem take_yes {p : PyData → Bool} {f : PyData → PyData} {i : Nat} (e : ds[i]? = some d) (h : p d = true) : ((ds.take (i + 1)).filter p).map f = ((ds.take i).filter p).map f ++ [f d] := by
  rw [List.take_add_one, e]
  simp [h]
theorem take_no {p : PyData → Bool} {f : PyData → PyData} {i : Nat} (e : ds[i]? = some d) (h : p d = false) : ((ds.take (i + 1)).filter p).map f = ((ds.take i).filter p).map f := by
  rw [List.take_add_one, e]
  simp [h]
/-- [f for x in .. if p] -/
theorem edl_lc {wi : TI} {tt : TT} {j : Nat} {vs : List Nat} (p : PyData → Bool) (f : PyData → PyData) (h : EvIt K wi σ H ds) (hz : ds.length ≤ 40000) (nl : ∀ d, d ∈ ds → p d = true → noList (f d) = true) (hw : ∀ x, wipe ((wipe σ vs).set j (some x)) vs = wipe σ vs)
    (ht : ∀ x d H1, Ex H H1 → d ∈ ds → Dd K H1 x d → EvT tt ((wipe σ vs).set j (some x)) H1 (p d)) (he : ∀ x d H1, Ex H H1 → d ∈ ds → Dd K H1 x d → p d = true → EvD K te ((wipe σ vs).set j (some x)) H1 (f d)) :
    EvDL K (tLc wi (gName j) tt te vs) σ H ((ds.filter p).map f) := fun H0 e Q q => h H0 e _ fun J H1 e1 w Dl hD =>
  lc_it w (fun i H' => Ex (upd H1 Dl (.lst [])) (upd H' Dl (.lst [])) ∧ ∃ acc, H' Dl = some (.lst acc) ∧ Dds K H' acc (((ds.take i).filter p).map f)) ⟨fun a o h => by rw [upd_upd]; exact h, [], upd_same, by simp; exact .nil⟩
    (fun i H' _ p' a o ha => by
      have n : a ≠ Dl := ne_of_none ha hD
      have q1 := p'.1 a o (by rw [upd_ne n]; exact ha)
      rw [upd_ne n] at q1
      exact q1)
    (fun i x H' H2 hi pv y => by
      obtain ⟨rfl, d, hd, g⟩ := y
      obtain ⟨p1, acc, p2, p3⟩ := pv
      have ex : Ex H1 H2 := fun a o ha => by
        have n : a ≠ Dl := ne_of_none ha hD
        have q1 := p1 a o (by rw [upd_ne n]; exact ha)
        rw [upd_ne n] at q1
        exact q1
      have hm : d ∈ ds := List.mem_of_getElem? hd
      have la : acc.length ≤ i := by
        rw [p3.len, List.length_map]
        refine Nat.le_trans (List.length_filter_le _ _) ?_
        rw [List.length_take]
        omega
      have exE : Ex H H2 := (e.trans e1).trans ex
      refine ⟨hw x, ht x d H2 exE hm g H2 (Ex.refl _) _ fun H3 e3 => ?_⟩
      have step : ∀ {H4 : Hp}, Ex H2 H4 → Ex (upd H1 Dl (.lst [])) (upd H4 Dl (.lst [])) := fun {H4} e4 a o ha => by
        by_cases n : a = Dl
        · subst n
          rw [upd_same] at ha ⊢
          exact ha
        · rw [upd_ne n] at ha ⊢
          exact e4 a o (ex a o ha)
      cases hp : p d with
      | true =>
        refine he x d H3 (exE.trans e3) hm (Dd.ext e3 _ _ g) hp H3 (Ex.refl _) _ fun u H4 e4 gu => ⟨acc, e4 _ _ (e3 _ _ p2), sz_lt (by omega), ?_, acc ++ [u], upd_same, ?_⟩
        · rw [upd_upd]
          exact step (e3.trans e4)
        · rw [take_yes hd hp]
          have nl1 : noLists (((ds.take i).filter p).map f) = true := noLists_of fun d' h' => by
            rw [List.mem_map] at h'
            obtain ⟨d0, h0, rfl⟩ := h'
            rw [List.mem_filter] at h0
            exact nl d0 (List.mem_of_mem_take h0.1) h0.2
          have p2' := e4 _ _ (e3 _ _ p2)
          exact Dds.app (Dds.upd p2' _ _ nl1 (Dds.ext (e3.trans e4) _ _ p3)) (.cons (Dd.upd p2' _ _ (nl d hm hp) gu) .nil)
      | false =>
        refine ⟨step e3, acc, e3 _ _ p2, ?_⟩
        rw [take_no hd hp]
        exact Dds.ext e3 _ _ p3)
    (fun H' pv => by
      obtain ⟨p1, acc, p2, p3⟩ := pv
      rw [List.take_length] at p3
      refine q Dl acc H' (fresh_back e1 hD) (e1.trans fun a o ha => ?_) p2 p3
      have n : a ≠ Dl := ne_of_none ha hD
      have q1 := p1 a o (by rw [upd_ne n]; exact ha)
      rw [upd_ne n] at q1
      exact q1)
end
end My
set_option maxHeartbeats 4000000
/-! the end of a law whose defs make lambdas: the tables of their code objects are tracked from the start, no guarded builtin runs -/
namespace My
open PySem PySem.Spec PyProof.Rows L2

/-- the script and the empty tables, nothing else -/
def scriptTabs (K : PySem.W.Frag) (ts : List Addr) (a : Addr) (o : Obj) (xs : List V) : Hp := fun b => if b ∈ ts then some (.tbl #[]) else onlyScript K a o xs b

theorem lawCallT {P : Program} {w : World} {K : PySem.W.Frag} {mg mb : Str → Option Value} {k : Nat} {fa a : Addr} {cs : List (Addr × Addr)} {fd : FuncData} {x : Str} {sp : Sp}
    {s₁ : Shared} {vs : List Value} {ns : List Int}
    (inK : K.In s₁.heap) (glob : s₁.heap.Ns mainGlobals mg) (blt : s₁.heap.Ns builtinsNs mb) (bltIs : ∀ x : Str, x ≠ "__name__" → mb x = bootBuiltins x)
    (free : s₁.heap.NoLimit) (gens : s₁.gens = #[])
    (tabs : ∀ p ∈ cs, s₁.heap.get? p.2 = some { cls := .none, data := .fields #[] }) (out : ∀ p ∈ cs, K.lookup p.2 = none) (code : ∀ p ∈ cs, PySem.W.CodeHd s₁.heap p.1 p.2)
    (modB : ∃ (bm : Addr) (ob : Obj), mg "__builtins__" = some (.ref bm) ∧ bm ≠ builtinsNs ∧ s₁.heap.get? bm = some ob ∧ ob.cls = .type "module" ∧ ob.dict = some builtinsNs ∧ ob.data = .plain)
    (ha : s₁.heap.get? a = some { cls := .type "list", data := .seq vs.toArray }) (areInts : IntsAre vs ns)
    (len : ns.length ≤ sizeLine) (room : Room k callerA)
    (F : ∀ base : Heap, K.In base → base.Ns mainGlobals mg → (∀ p ∈ cs, LamX.TabB base mg p.1 p.2) → FnG P w K mg base CX0 k fa fd [x] sp)
    (binds : ∀ (s : Shared) (u : Value), BindsTo s fd ⟨[u], []⟩ [(x, u)])
    (promise : ∀ H : Hp, (∀ p ∈ cs, H p.2 = some (.tbl #[])) → SqL K H a (ns.map V.int) → sp [.ref a] H (fun v _ => v = .bl true) fun _ _ _ => False) :
    codeAny (model P w) callerA (.call (.ref fa) ⟨[.ref a], []⟩)
      (fun r s' => r = .ok (.ret (.bool true)) ∧ OldK s₁.heap s'.heap ∧ s'.os = s₁.os ∧ AllBare s'.gens) s₁ := by
  have rv := vals_ints areInts
  have lenV := areInts.length
  let ts := cs.map (·.2)
  let ob : Obj := { cls := .type "list", data := .seq vs.toArray }
  let H := scriptTabs K ts a ob (ns.map V.int)
  have isTab : ∀ {b : Addr}, b ∈ ts → s₁.heap.get? b = some { cls := .none, data := .fields #[] } := fun {b} hb => by
    obtain ⟨p, hp, rfl⟩ := List.mem_map.mp hb
    exact tabs p hp
  have aOut : a ∉ ts := fun z => by
    have q := isTab z
    rw [ha] at q
    have q2 := congrArg Obj.data (Option.some.inj q)
    cases q2
  have Htab : ∀ {b : Addr}, b ∈ ts → H b = some (.tbl #[]) := fun hb => if_pos hb
  have Hrest : ∀ {b : Addr}, b ∉ ts → H b = onlyScript K a ob (ns.map V.int) b := fun hb => if_neg hb
  have hok : HOk P w H s₁.heap := fun b u e => by
    by_cases hb : b ∈ ts
    · rw [Htab hb] at e
      cases e
      exact isTab hb
    · rw [Hrest hb] at e
      obtain ⟨rfl, _, rfl⟩ := onlyScript_at e
      exact ⟨ha, by rw [List.length_map]; exact len, vs, _, rv, ha⟩
  have hS : SqL K H a (ns.map V.int) := by
    cases e : K.lookup a with
    | none => exact Or.inl (Or.inr ⟨ob, (Hrest aOut).trans (if_pos ⟨rfl, by rw [e]; rfl⟩)⟩)
    | some o =>
      have q := inK a o e
      rw [ha] at q
      cases q
      exact Or.inr ⟨_, vs.toArray, _, e, rfl, rfl, rfl, by rw [List.size_toArray, lenV]; exact len, by simpa using rv⟩
  have freeAt : ∀ {b : Addr}, (b = a → False) → b ∉ ts → H b = none := fun {b} n1 n2 => by
    rw [Hrest n2]
    cases e : onlyScript K a ob (ns.map V.int) b with
    | none => rfl
    | some u => exact (n1 (onlyScript_at e).1).elim
  have under : ∀ {b : Addr} {o : Obj}, s₁.heap.get? b = some o → H b = none → (hidT s₁.heap H).get? b = some o := fun e n => hidT_get e n
  -- an object that is neither a row of values nor an empty record is not tracked
  have other : ∀ {b : Addr} {o : Obj}, s₁.heap.get? b = some o → (∀ its n, o.data ≠ .seq its n) → o.data ≠ .fields #[] → (hidT s₁.heap H).get? b = some o := fun {b o} e n1 n2 => by
    refine under e (freeAt ?_ fun z => ?_)
    · rintro rfl
      rw [ha] at e
      cases e
      exact n1 _ _ rfl
    · rw [isTab z] at e
      cases e
      exact n2 rfl
  have maps : ∀ {b : Addr} {m : Str → Option Value}, s₁.heap.Ns b m → (hidT s₁.heap H).Ns b m := by
    rintro b m ⟨o, es, ep, e, d, r⟩
    exact ⟨o, es, ep, other e (fun _ _ z => by rw [d] at z; cases z) (fun z => by rw [d] at z; cases z), d, r⟩
  have inBase : K.In (hidT s₁.heap H) := fun b o e => under (inK b o e) (by
    by_cases hb : b ∈ ts
    · obtain ⟨p, hp, rfl⟩ := List.mem_map.mp hb
      rw [out p hp] at e
      cases e
    · rw [Hrest hb]
      cases q : onlyScript K a ob (ns.map V.int) b with
      | none => rfl
      | some u =>
        obtain ⟨rfl, z, _⟩ := onlyScript_at q
        rw [z] at e
        cases e)
  have md : Mod K mg (hidT s₁.heap H) := by
    obtain ⟨mc, q1, q2⟩ := free
    exact ⟨inBase, maps glob, ⟨mb, maps blt, bltIs⟩, ⟨mc, maps q1, q2⟩⟩
  have TB : ∀ p ∈ cs, LamX.TabB (hidT s₁.heap H) mg p.1 p.2 := fun p hp => by
    refine ⟨?_, ?_, ?_⟩
    · obtain ⟨o, us, file, tf, flags, tg, inF, text, tt, e1, r1, r2, rest⟩ := code p hp
      refine ⟨o, us, file, tf, flags, tg, inF, text, tt, other e1 (fun _ _ z => by rw [r2] at z; cases z) (fun z => ?_), r1, r2, rest⟩
      have z2 := r2.symm.trans z
      have us0 : us = #[] := by injection z2
      have h3 := rest.1
      rw [us0] at h3
      simp at h3
    · obtain ⟨bm, obm, b1, b2, b3, b4, b5, b6⟩ := modB
      refine ⟨bm, obm, b1, b2, ?_, ?_, other b3 (fun _ _ z => by rw [b6] at z; cases z) (fun z => by rw [b6] at z; cases z), b4, b5, b6⟩
      · rintro rfl
        obtain ⟨o, es, ep, e, d, _⟩ := glob
        rw [e] at b3
        cases b3
        rw [d] at b6
        cases b6
      · rintro rfl
        rw [tabs p hp] at b3
        cases b3
        cases b6
    · intro z
      obtain ⟨o, es, ep, e, d, _⟩ := glob
      rw [z, tabs p hp] at e
      cases e
      cases d
  have nil : ∀ b : Addr, b ∈ frs [] → False := fun b z => by
    have z' : b ∈ ([] : List Addr) := z
    cases z'
  have e0 : Env0 P w K mg (hidT s₁.heap H) callerA [] s₁ H :=
    ⟨rfl, md, fun b o e => of_hidT e, Nat.le_of_eq (hidT_size _ _), trivial, fun b hb => (nil b hb).elim, hok, .of_eq gens⟩
  have run := (F _ inBase (maps glob) TB).run callerA [] s₁ H ⟨[.ref a], []⟩ [.ref a] [.ref a] _ _ rfl room e0 (binds s₁ (.ref a)) (.cons rfl .nil)
    (promise H (fun p hp => Htab (List.mem_map_of_mem hp)) hS)
  refine codeAny_mono run fun r s' h => ?_
  match r, h with
  | .error e, h => exact False.elim h
  | .ok (.ret u), h =>
    obtain ⟨v, H', os, bare, un, hok', r', q⟩ := h
    obtain rfl : v = .bl true := q
    obtain rfl : u = Value.bool true := r'
    have same : ∀ b o, b ∉ ts → s₁.heap.get? b = some o → s'.heap.get? b = some o := fun b o nb e => by
      cases q : H b with
      | none => exact un.keep b o e q (fun z => nil b z) (by simp)
      | some u =>
        have q1 := q
        rw [Hrest nb] at q1
        obtain ⟨rfl, _, rfl⟩ := onlyScript_at q1
        have q2 := un.frzs _ _ _ q
        obtain ⟨e2, _⟩ := hok' _ _ q2
        rw [ha] at e
        cases e
        exact e2
    have bigger : ∀ p ∈ cs, ∃ more : Array Value, s'.heap.get? p.2 = some { cls := .none, data := .fields more } := fun p hp => by
      obtain ⟨more, z⟩ := un.tbls p.2 #[] (Htab (List.mem_map_of_mem hp))
      exact ⟨_, hok' p.2 _ z⟩
    refine ⟨rfl, ⟨fun b o e => ?_, fun b o e => ?_⟩, os, bare⟩
    · by_cases hb : b ∈ ts
      · obtain ⟨p, hp, rfl⟩ := List.mem_map.mp hb
        obtain ⟨more, hm⟩ := bigger p hp
        rw [tabs p hp] at e
        cases e
        refine .inr (.inl ⟨((code p hp).tab (tabs p hp)).isCodeTable, rfl, #[], more, rfl, ?_⟩)
        rw [Array.empty_append]
        exact hm
      · exact .inl (same b o hb e)
    · by_cases hb : b ∈ ts
      · obtain ⟨p, hp, rfl⟩ := List.mem_map.mp hb
        obtain ⟨more, hm⟩ := bigger p hp
        exact ⟨_, hm⟩
      · exact ⟨o, same b o hb e⟩
  | .ok .next, h => exact False.elim h
  | .ok .brk, h => exact False.elim h
  | .ok .cont, h => exact False.elim h

/-- what the head leaves to the law's promise, with tables -/
theorem walkGT {l : PySem.W.OpenLaw} {n k : Nat} {q : Program} {loose : List Str} {XP : (Str → Option Value) → Heap → Prop} {YP : World → Heap → Prop}
    {d : DefRec} {K : Params → PySem.W.Frag} {sp : World → Sp} {x : Str}
    (most : l.most = some n) (small : n ≤ sizeLine) (hdf : d.params.defaults = []) (room : Room k callerA)
    (hY : ∀ (w : World) (h : Heap), YP w h → (K w.params).In h)
    (F : ∀ (w : World) (mg : Str → Option Value) (fa : Addr) (h : Heap), YP w h → (K w.params).In h → h.Ns mainGlobals mg → mg d.name = some (.ref fa) →
      ∃ (fd : FuncData) (cs : List (Addr × Addr)), (∀ p ∈ cs, h.get? p.2 = some { cls := .none, data := .fields #[] }) ∧ (∀ p ∈ cs, (K w.params).lookup p.2 = none) ∧ (∀ p ∈ cs, PySem.W.CodeHd h p.1 p.2) ∧
        (∀ (s : Shared) (u : Value), BindsTo s fd ⟨[u], []⟩ [(x, u)]) ∧
        (∀ (H : Hp) (a : Addr) (ns : List Int), ns.length ≤ n → (∀ p ∈ cs, H p.2 = some (.tbl #[])) → SqL (K w.params) H a (ns.map V.int) → sp w [.ref a] H (fun v _ => v = .bl true) fun _ _ _ => False) ∧
        ∀ base : Heap, (K w.params).In base → base.Ns mainGlobals mg → (∀ p ∈ cs, LamX.TabB base mg p.1 p.2) → FnG l.prog w (K w.params) mg base CX0 k fa fd [x] (sp w)) :
    PySem.W.WalkO q loose XP YP l.row.toRowW d [] (fun f vs => PySem.call f vs) := by
  refine Att.attach_callB most hdf fun w s₀ s₁ mg mb fa o pm cd doc a vs ns G Y ho hd hcd hmg hobj hints hlen hbits hg => ?_
  have inK := hY w _ Y
  obtain ⟨fd, cs, tabs, out, code, binds, promise, hF⟩ := F w mg fa _ Y inK G.T.g hmg
  exact lawCallT inK G.T.g G.T.b G.T.builtins G.T.nolimit hg tabs out code G.T.bmain hobj hints (Nat.le_trans hlen small) room hF binds
    fun H hH hS => promise H a ns hlen hH hS
end My
set_option maxHeartbeats 2000000
/-! own == on a plain instance, whatever the other side is; len of an instance -/
namespace My
open PySem PySem.Spec PyProof.Rows L2
theorem cmpback2 {P : Value → Shared → Prop} {z : V} {v : Value} {s' : Shared} (r : RelV z v) (h : P v s') : PySem.W.CmpBack P v s' := by
  cases z with
  | non => cases (show v = Value.none from r); exact h
  | bl b => cases (show v = Value.bool b from r); exact h
  | int i =>
    obtain ⟨t, e⟩ := (show ∃ t, v = Value.int i t from r)
    cases e
    exact h
  | str x =>
    obtain ⟨t, e⟩ := (show ∃ t, v = Value.str x t from r)
    cases e
    exact h
  | byt x =>
    obtain ⟨t, e⟩ := (show ∃ t, v = Value.bytes x t from r)
    cases e
    exact h
  | flt x =>
    obtain ⟨t, e⟩ := (show ∃ t, v = Value.float x t from r)
    cases e
    exact h
  | ref a => cases (show v = Value.ref a from r); exact h
  | ty n => cases (show v = Value.type n from r); exact h
section
variable {X : Cx} {CX : CXT} {k : Nat} {C g : Addr} {fd : FuncData} {ps : List Str} {sp : Sp} {E : XK}
/-- x op y, x an instance of the class at C whose def for op is at g; y of a type that is none below C -/
def rOwnI (K : PySem.W.Frag) (C : Addr) (sp : Sp) (E : XK) : R2 := fun x y H Q => ∃ a dx fs t, x = .ref a ∧ H a = some (.ins C dx fs) ∧ TyX K H y t ∧ PySem.W.notFirst K C t = true ∧ sp [x, y] H Q E
theorem op_ownI {op : CmpOp} (hop : ∀ a b, compareOp op a b = richCompare op a b) (hs : PySem.W.findIn X.K (.ref C) (cmpInfo op).2.1 = some (some (.ref g))) (hf : PySem.W.isFn X.K (.ref g) = true)
    (F : FnOk X.prog X.w X.K X.mg X.base CX k g fd ps sp) (hb : Binds X.K fd ps []) (hr : Room k X.A) (hx : Passes CX X E) : OpR X (compareOp op) (rOwnI X.K C sp E) := by
  intro pins s σ H x y v u Q I rx ry h
  obtain ⟨a, dx, fs, t, rfl, ha, ty, hn, q⟩ := h
  cases (show v = Value.ref a from rx)
  obtain ⟨mA, J, _⟩ := ins_get I.hok ha
  obtain ⟨od, J, _⟩ := J.look
  obtain ⟨P, Z, hP, _⟩ := kit_of I ry ty
  obtain ⟨m, hF⟩ := I.fr
  rw [hop]
  refine PySem.W.cmp_K (op := op) (tb := t) hr.units0 hF I.ok.mod.kin J (Z.ty _ _ I.kIn hP) hn hs hf ?_
  have r2 : Vals [V.ref a, y] [Value.ref a, u] := .cons rfl (.cons ry .nil)
  have z := run_fn (us := [.ref a, u]) (vs := [.ref a, y]) F hr hb .nil hx I r2 (by simpa using q)
  refine wpAny_mono z (fun w s' z => ?_) fun _ _ x => x
  obtain ⟨z', H', I', rz, qz⟩ := z
  exact cmpback2 rz ⟨z', H', I', rz, qz⟩
/-- len(x), x an instance with an own __len__ -/
def rLenI (C : Addr) (sp : Sp) (E : XK) : List V → Hp → VK → Prop := fun xs H Q => ∃ a dx fs, xs = [.ref a] ∧ H a = some (.ins C dx fs) ∧ sp xs H (fun v H' => ∃ n : Nat, v = .int n ∧ n < 1000000 ∧ Q (.int n) H') E
theorem call_lenI (hs : PySem.W.findIn X.K (.ref C) "__len__" = some (some (.ref g))) (hf : PySem.W.typeIn X.K (.ref g) = some (.type "function"))
    (F : FnOk X.prog X.w X.K X.mg X.base CX k g fd ps sp) (hb : Binds X.K fd ps []) (hr : Room (k + 1) X.A) (hx : Passes CX X.nox E) : CallR X (.builtin "len") (rLenI C sp E) := by
  intro pins s σ H xs us Q I r h
  obtain ⟨a, dx, fs, rfl, ha, q⟩ := h
  obtain ⟨mA, J, _⟩ := ins_get I.hok ha
  obtain ⟨od, J, _⟩ := J.look
  obtain ⟨u, rfl, ru⟩ : ∃ u, us = [u] ∧ RelV (.ref a) u := by
    cases r with
    | cons p q =>
      cases q
      exact ⟨_, rfl, p⟩
  cases (show u = Value.ref a from ru)
  obtain ⟨hp, gs, d, t, os⟩ := s
  refine Calls.call_function_entry kind_len plain_len entry_len (args_len1 _) ?_
  unfold Builtin.«len»
  refine wpAny_bind (m := oneArg "len" _) (wpAny_pure ?_)
  have hl : ([Value.ref a] : List Value).length = ps.length := by
    rw [← F.len _ _ _ _ q]
    rfl
  refine wpAny_bind (m := callSpecial? (.ref a) (Str.ofString "__len__")) (PySem.W.special_fn I.kIn J hs hf (wpAny_call (codeAny_mono (F.run X.A.in1 X.stack ⟨hp, gs, d, t, os⟩ H ⟨[.ref a], []⟩ [.ref a] [.ref a] _ E hr.in1 I.env0.in1 (by simpa using hb _ [.ref a] I.kIn hl) (.cons rfl .nil) q) fun r s' hq => ?_)))
  cases r with
  | error er => exact False.elim (hx pins σ H ⟨hp, gs, d, t, os⟩ er s' (I.wish _) hq)
  | ok fl =>
    cases fl with
    | ret u =>
      obtain ⟨v, H', I3, rv, n, rfl, hn, q3⟩ := I.after hq
      obtain ⟨tk, rfl⟩ := (show ∃ t, u = Value.int n t from rv)
      refine wpAny_bind (wpAny_holding (wpAny_pure ?_))
      refine wpAny_bind (wpAny_letGo ?_)
      show wpAny _ _ (if (n : Int) < 0 then _ else _) _ _ _
      rw [if_neg (by omega)]
      show wpAny _ _ (if (n : Int) ≥ 2 ^ 63 then _ else _) _ _ _
      rw [if_neg (by omega)]
      refine wpAny_bind (wpAny_mkInt (wpAny_pure ?_))
      exact ⟨_, rfl, V.int n, H', I3.tok _, ⟨_, rfl⟩, q3⟩
    | next => exact False.elim hq
    | brk => exact False.elim hq
    | cont => exact False.elim hq
end
end My
set_option maxHeartbeats 2000000
/-! == of dicts whose values are data -/
namespace My
open PySem PySem.Spec PyProof.Rows L2
mutual
def noDict : PyData → Bool
  | .none => true
  | .bool _ => true
  | .int _ => true
  | .str _ => true
  | .tuple ds => noDicts ds
  | .list ds => noDicts ds
  | .dict _ => false
def noDicts : List PyData → Bool
  | [] => true
  | d :: ds => noDict d && noDicts ds
end
mutual
theorem dp_ofL {K : PySem.W.Frag} {H : Hp} : ∀ (d : PyData) (v : V), noDict d = true → Dd K H v d → Dp K H v d
  | .none, _, _, g => by
    cases g
    exact .non
  | .bool b, _, _, g => by
    cases g
    exact .bl b
  | .int i, _, _, g => by
    cases g
    exact .int i
  | .str x, _, _, g => by
    cases g
    exact .str x
  | .tuple ds, _, n, g => by
    cases g with
    | tup hs ha => exact .tup hs (dps_ofL ds _ n ha)
  | .list ds, _, n, g => by
    cases g with
    | lst hs ha => exact .lst hs (dps_ofL ds _ n ha)
  | .dict _, _, n, _ => by cases n
theorem dps_ofL {K : PySem.W.Frag} {H : Hp} : ∀ (ds : List PyData) (vs : List V), noDicts ds = true → Dds K H vs ds → DpAll K H vs ds
  | [], _, _, g => by
    cases g
    exact .nil
  | d :: ds, _, n, g => by
    cases g with
    | cons g1 g2 =>
      have n2 : (noDict d && noDicts ds) = true := n
      rw [Bool.and_eq_true] at n2
      exact .cons (dp_ofL d _ n2.1 g1) (dps_ofL ds _ n2.2 g2)
end
section
variable {X : Cx}
/-- d == e, both dicts by keys; e says what the values under a key answer -/
def rEqDK (K : PySem.W.Frag) : R2 := fun x y H Q => ∃ (a b : Addr) (ka kb : List (Key × V)) (e : Key → Bool), x = .ref a ∧ y = .ref b ∧ H a = some (.dK ka) ∧ H b = some (.dK kb) ∧
  (∀ p ∈ ka, ∀ v', valV kb p.1 = some v' → ∃ d d', Dp K H p.2 d ∧ Dp K H v' d' ∧ d.canLay0 = true ∧ d'.canLay0 = true ∧ d.depth ≤ 30 ∧ e p.1 = PyData.eqv d d') ∧
  Q (.bl (ka.length == kb.length && ka.all fun p => (valV kb p.1).isSome && e p.1)) H
theorem kv_keys {κ : Type} {ka : List (κ × V)} {va : List (κ × Value)} (r : KV ka va) (f : κ → Bool) : (va.all fun p => f p.1) = ka.all fun p => f p.1 := by
  unfold KV at r
  induction r with
  | nil => rfl
  | cons h _ ih => rw [List.all_cons, List.all_cons, ih, h.1]
theorem kv_mem {κ : Type} {ka : List (κ × V)} {va : List (κ × Value)} (r : KV ka va) {k : κ} {u : Value} (h : (k, u) ∈ va) : ∃ v, (k, v) ∈ ka ∧ RelV v u := by
  unfold KV at r
  induction r with
  | nil => cases h
  | @cons p q _ _ z _ ih =>
    rcases List.mem_cons.mp h with rfl | h
    · refine ⟨p.2, ?_, z.2⟩
      have e : p.1 = k := z.1
      rw [← e]
      exact List.mem_cons_self ..
    · obtain ⟨v, h1, h2⟩ := ih h
      exact ⟨v, List.mem_cons_of_mem _ h1, h2⟩
theorem op_eqDK (hu : X.A.units + 64 < cLine) : OpR X (compareOp .Eq) (rEqDK X.K) := by
  intro pins s σ H x y v u Q I rx ry h
  obtain ⟨a, b, ka, kb, e, rfl, rfl, ea, eb, hd, q⟩ := h
  obtain rfl : v = Value.ref a := rx
  obtain rfl : u = Value.ref b := ry
  obtain ⟨_, ya, va, ra, da⟩ := (show ObjOk X.prog X.w H s.heap a (.dK ka) from I.hok a _ ea)
  obtain ⟨_, yb, vb, rb, db⟩ := (show ObjOk X.prog X.w H s.heap b (.dK kb) from I.hok b _ eb)
  have some : ∀ k, (valueAt vb k).isSome = (valV kb k).isSome := fun k => by
    have z := rb.val k
    cases h1 : valV kb k <;> cases h2 : valueAt vb k <;> rw [h1, h2] at z <;> first | rfl | exact z.elim
  refine PySem.W.eq_dictsT (n := 30) (e := e) ya yb da db (fun k v y hm hv => ?_) (by omega) ?_
  · obtain ⟨v0, hm0, rv⟩ := kv_mem ra hm
    have z := rb.val k
    rw [hv] at z
    cases h1 : valV kb k with
    | none =>
      rw [h1] at z
      exact z.elim
    | some v' =>
      rw [h1] at z
      obtain ⟨d, d', g, g', c, c', dep, ek⟩ := hd _ hm0 v' h1
      obtain ⟨as, r1⟩ := Dp.reads I d v0 v g rv
      obtain ⟨bs, r2⟩ := Dp.reads I d' v' y g' z
      rw [ek]
      exact .leaf fun A hA => SeqAt.eqAt_reads d d' A s v y as bs r1 r2 c c' (by
        have := Nat.min_le_left d.depth d'.depth
        omega)
  · have e1 : (va.all fun p => (valueAt vb p.1).isSome && e p.1) = ka.all fun p => (valV kb p.1).isSome && e p.1 := by
      rw [kv_keys ra fun k => (valueAt vb k).isSome && e k]
      simp only [some]
    have e2 : va.length = ka.length := (Paired.length ra).symm
    have e3 : vb.length = kb.length := (Paired.length rb).symm
    rw [e1, e2, e3]
    exact ⟨.bl _, H, I, rfl, q⟩
end
end My
namespace My
open PySem PySem.Spec PyProof.Rows L2
def tRev (K : PySem.W.Frag) (te : TE) (ts : TO) : TE := fun σ H Q => te σ H fun x H1 => ts σ H1 fun o H2 => o = some (-1) ∧ ∃ a xs, x = .ref a ∧ SqL K H2 a xs ∧ ∀ p, H2 p = none → Q (.ref p) (upd H2 p (.lst xs.reverse))
/-- xs[::-1] of a list -/
theorem pe_rev {X : Cx} {e st : Expr} {te : TE} {ts : TO} {p2 pos : Pos} (he : PE X e te) (hs : PO X (some st) ts) : PE X (.Subscript e (.Slice none none (some st) p2) pos) (tRev X.K te ts) := by
  refine ⟨fun pins s σ H Q I h => ?_⟩
  refine Subscript_ (thn (he.run pins s σ H _ I h) fun v s1 ⟨x, H1, I1, r1, q1⟩ => ?_)
  refine wpAny_Slice ?_
  rw [evalPart_none]
  refine wpAny_pure ?_
  refine wpAny_pure ?_
  refine thn (hs.run pins s1 σ H1 _ I1 q1) fun vk s3 ⟨o, H3, I3, pk, q3⟩ => ?_
  obtain ⟨rfl, a, xs, rfl, hx, q⟩ := q3
  cases r1
  have I4 : Inv X pins σ H3 { s3 with heap := s3.heap.push { cls := .type "slice", data := .fields #[.none, .none, vk] } } := I3.kept (t' := s3.toks) fun b ob q => Heap.get?_push_of_some _ q
  obtain ⟨its, r, ht, hz⟩ := I4.list hx
  have hlen := r.length
  show wpAny (model X.prog X.w) X.A (subscriptTail e (.Slice none none (some st) p2) (.ref a) (.ref s3.heap.objs.size)) (EP X pins σ Q) X.xe { s3 with heap := s3.heap.push { cls := .type "slice", data := .fields #[.none, .none, vk] } }
  refine tail_any (ops := [.ref a, .ref s3.heap.objs.size]) ht.isList.typeIs slot_list_getitem.lookup ?_ (by with_unfolding_all rfl)
  refine wpAny_getItem_list_slice ht.isList (Heap.IsSliceOf.new ..) .none .none pk (by decide) ?_ (by rw [List.size_toArray] <;> omega)
  rw [PySem.W.krv_pick]
  refine ⟨.ref _, _, I4.laid (t' := s3.toks) (o := .lst xs.reverse) (fun b ob q => Heap.get?_push_of_some _ q) (Nat.le_refl _) ?_, rfl, q _ (I4.hok.fresh (Nat.le_refl _))⟩
  refine ⟨by rw [List.length_reverse]; exact hz, _, 0, r.reverse, Heap.get?_push_size _ rfl⟩
end My
set_option maxHeartbeats 3200000
/-! len(set(xs)), xs a list or tuple of texts, any of them twice -/
namespace My
open PySem PySem.Spec PyProof.Rows L2
section
variable {κ : Type} [DecidableEq κ]
/-- what is in the set when i items were put into it; how many -/
def memOf (key : Nat → κ) : Nat → κ → Bool
  | 0, _ => false
  | i + 1, k => memOf key i k || decide (k = key i)
def cntOf (key : Nat → κ) : Nat → Nat
  | 0 => 0
  | i + 1 => if memOf key i (key i) then cntOf key i else cntOf key i + 1
theorem cntOf_le (key : Nat → κ) : ∀ i, cntOf key i ≤ i
  | 0 => Nat.le_refl 0
  | i + 1 => by
    have := cntOf_le key i
    unfold cntOf
    split <;> omega
theorem memOf_iff (key : Nat → κ) (k : κ) : ∀ i, memOf key i k = true ↔ ∃ j, j < i ∧ key j = k
  | 0 => ⟨fun z => (by cases z), fun ⟨j, z, _⟩ => (by omega)⟩
  | i + 1 => by
    have ih := memOf_iff key k i
    unfold memOf
    rw [Bool.or_eq_true, ih, decide_eq_true_eq]
    constructor
    · rintro (⟨j, h1, h2⟩ | h)
      · exact ⟨j, by omega, h2⟩
      · exact ⟨i, by omega, h.symm⟩
    · rintro ⟨j, h1, h2⟩
      by_cases e : j = i
      · exact .inr (by rw [← h2, e])
      · exact .inl ⟨j, by omega, h2⟩
/-- all different: as many as items -/
theorem cntOf_all (key : Nat → κ) : ∀ n, cntOf key n = n ↔ ∀ i j, i < j → j < n → key i ≠ key j
  | 0 => ⟨fun _ i j _ h => by omega, fun _ => rfl⟩
  | n + 1 => by
    have ih := cntOf_all key n
    have le := cntOf_le key n
    have mi := memOf_iff key (key n) n
    unfold cntOf
    constructor
    · intro h i j ij jn
      split at h
      · omega
      · rename_i hm
        by_cases e : j = n
        · subst e
          exact fun q => hm (mi.mpr ⟨i, ij, q⟩)
        · exact ih.mp (by omega) i j ij (by omega)
    · intro h
      rw [if_neg fun hm => by
        obtain ⟨j, h1, h2⟩ := mi.mp hm
        exact h j n h1 (by omega) h2]
      rw [ih.mpr fun i j ij jn => h i j ij (by omega)]
end
section
variable {prog : Program} {w : World} {κ : Type} [DecidableEq κ] [BEq κ] [LawfulBEq κ] {knd : KeyKind prog w κ}
theorem kept_set {h h' : Heap} {S : Addr} {f : κ → Bool} {m : Nat} (x : h.SetOf knd S f m) (k : ∀ o, h.get? S = some o → h'.get? S = some o) : h'.SetOf knd S f m := by
  obtain ⟨o, es, ep, t, e, rest⟩ := x
  exact ⟨o, es, ep, t, k o e, rest⟩
variable {A : Around} {R : Result → Shared → Prop} {I S : Addr} {fp wr : List Addr} {G : Array GenState → Array GenState → Prop} {n : Nat} {P : Nat → Value → Prop} {St : Nat → Shared → Prop}
/-- the turns that put all items into the set at S -/
theorem put_all (W : WalksS prog w A.in1 I fp wr G n P St) (out : S ∉ fp) (key : Nat → κ) (is : ∀ i v, P i v → knd.is (key i) v = true ∧ v.scannable = true) (room : n + 1 < scanBound) (left : Nat) :
    ∀ (i : Nat) (s : Shared), i + left = n → St i s → s.heap.SetOf knd S (memOf key i) (cntOf key i) →
      (∀ s', Moved (S :: wr) G s s' → s'.heap.SetOf knd S (memOf key n) (cntOf key n) → R (.ok (.ret .none)) s') → codeAny (model prog w) A (.builtin "set.update.loop" ⟨[.ref S, .ref I], []⟩) R s := by
  have outW : S ∉ wr := fun z => out (W.sub _ z)
  have more : ∀ b ∈ wr, b ∈ S :: wr := fun b z => .tail _ z
  induction left with
  | zero =>
    intro i s il st has fin
    obtain rfl : i = n := il
    refine codeAny_builtin F.entry_set_update_loop ?_
    rw [A.under_plainId F.plain_set_update_loop _]
    refine wpAny_bind (m := pyNext (.ref I)) (W.done s _ _ st fun s1 mv => ?_)
    exact wpAny_pure (fin s1 (mv.mono more) (kept_set has fun o e => mv.heap S o outW e))
  | succ left ih =>
    intro i s il st has fin
    refine codeAny_builtin F.entry_set_update_loop ?_
    rw [A.under_plainId F.plain_set_update_loop _]
    refine wpAny_bind (m := pyNext (.ref I)) (W.item i s _ _ (by omega) st fun v s1 item st1 mv => ?_)
    obtain ⟨isv, sc⟩ := is i v item
    have has1 := kept_set has fun o e => mv.heap S o outW e
    refine wpAny_bind (m := holding [v] (setAdd S v)) (wpAny_holding ?_)
    refine wpAny_holding (wpAny_bind (knd.pyHash isv ?_))
    have := cntOf_le key i
    refine wpAny_setAddHashed_of (s := { s1 with toks := s1.toks + 1 }) isv sc has1 (by omega) fun h2 but has2 => wpAny_pure ⟨plainId_quiet F.plain_set_update_loop _, ?_⟩
    refine ih (i + 1) _ (by omega) (W.frame _ s1 _ _ st1 (Nat.le_succ _) fun b inb o e => ?_) has2 fun s3 mv3 has3 => fin s3 (Moved.trans W.gtrans ((mv.mono more).then_heap (Nat.le_succ _) fun b o nb e => ?_) mv3) has3
    · rw [but.2 b fun z => out (z ▸ inb)]
      exact e
    · rw [but.2 b fun z => nb (z ▸ .head _)]
      exact e
end
/-! the call -/
set_option maxHeartbeats 6400000 in
theorem set_of_list {prog : Program} {w : World} {A : Around} {E : Value → Shared → Prop} {s : Shared} {κ : Type} [DecidableEq κ] [BEq κ] [LawfulBEq κ] {knd : KeyKind prog w κ} {l : Addr} {items : Array Value} {Q : Value → Shared → Prop} (hh : A.handled = none) (src : s.heap.IsList l items) (key : Nat → κ)
    (is : ∀ (i : Nat) v, items[i]? = some v → knd.is (key i) v = true ∧ v.scannable = true) (room : items.size + 1 < scanBound)
    (post : ∀ (h' : Heap) (tk : Nat), h'.SetOf knd s.heap.objs.size (memOf key items.size) (cntOf key items.size) → (∀ b o, s.heap.get? b = some o → h'.get? b = some o) → Q (.ref s.heap.objs.size) { s with heap := h', toks := tk }) :
    wpAny (model prog w) A (call (.type "set") [.ref l]) Q E s := by
  obtain ⟨mc, mt, mro⟩ := PySem.F.called_set.mro
  have made := PySem.F.called_set.made
  have sub := PySem.F.called_set.sub
  have noT := PySem.F.called_set.notType
  have can := PySem.F.called_set.canCreate
  have chk := PySem.F.typeCall_set_1 (.ref l)
  refine wpAny_call (codeAny_of_tree (show wpAny _ _ (callAny (.type "set") _) _ _ _ from ?_))
  refine wpAny_pure ⟨Code.quiet_builtin _ (by decide +kernel), codeAny_builtin PySem.F.entry_type_call ?_⟩
  rw [A.under_plain (weight_type_call_type "set" [.ref l] []) rfl]
  repeat (any_goals (first | assumption | wp_step))
  let mkO : Bool → Obj := fun led => { cls := .type "set", dict := none, data := .set #[] 0 (.fresh 0 0 led) }
  refine codeAny_mono (code_set_new_1 (.ref l) (E := E) (Q₁ := fun v s1 => ∃ led, v = .ref s.heap.objs.size ∧ s1 = { s with heap := s.heap.push (mkO led) }) fun led => ⟨led, rfl, rfl⟩) fun r0 s0 hr0 => ?_
  match r0, hr0 with
  | .error e, hr0 => exact hr0
  | .ok (.ret v), hr0 =>
    obtain ⟨led, rfl, rfl⟩ := hr0
    have at0 : (s.heap.push (mkO led)).get? s.heap.objs.size = some (mkO led) := Heap.get?_push_size _ rfl
    have ty0 : Shared.TypeIs { s with heap := s.heap.push (mkO led) } (.ref s.heap.objs.size) "set" := ⟨_, at0, rfl⟩
    have ini := PySem.F.called_set.init.lookup
    have bnd := PySem.F.called_set.init.bind (.ref s.heap.objs.size)
    repeat (any_goals (first | assumption | wp_step))
    refine codeAny_mono (codeAny_call_builtin (R := wants (fun r s2 => r = .none ∧ ∃ h' tk, s2 = { s with heap := h', toks := tk } ∧ h'.SetOf knd s.heap.objs.size (memOf key items.size) (cntOf key items.size) ∧ ∀ b o, s.heap.get? b = some o → h'.get? b = some o) E)
      PySem.F.called_set.init.plain PySem.F.entry_set_init (check_set_init_1 ty0 ?_)) fun r2 s2 hr2 => ?_
    · obtain ⟨⟨oc, od, odt, osl⟩, ho, e1, nl, e2⟩ := src
      dsimp only at e1 e2
      subst e1
      subst e2
      have ho1 := Heap.get?_push_of_some (mkO led) ho
      have q1 := PySem.F.sub_list_set
      have q2 := PySem.F.sub_list_frozenset
      have q3 : (Value.type "list" == Value.type "dict") = false := by decide
      have src1 : (s.heap.push (mkO led)).IsList l items := ⟨_, ho1, rfl, nl, rfl⟩
      unfold Builtin.«set.__init__» Builtin.Frozenset.updateFrom noKeywords
      generalize hPI : pyIter = PI
      wp_walk
      subst hPI
      refine wpAny_pyIter_list src1 (wpAny_bind (wpAny_runValue ?_))
      have lt := Heap.lt_size ho
      have hd3 : A.in1.in1.in1.handled = none := by simp [hh]
      have ne1 : l ≠ (s.heap.push (mkO led)).objs.size := by
        rw [Heap.size_push]
        exact Nat.ne_of_lt (Nat.lt_succ_of_lt lt)
      have out : s.heap.objs.size ∉ [(s.heap.push (mkO led)).objs.size, l] := by
        rw [Heap.size_push]
        simp only [List.mem_cons, List.not_mem_nil, or_false, not_or]
        exact ⟨Nat.ne_of_lt (Nat.lt_succ_self _), Nat.ne_of_gt lt⟩
      refine put_all (W := (Walks.list hd3 _ l ne1 items).toS) out key is room items.size 0 _ (Nat.zero_add _) ⟨⟨_, Heap.get?_push_size _ rfl, rfl, rfl⟩, src1.push _⟩ ?_ ?_
      · have at1 := Heap.get?_push_of_some ({ cls := .type "list_iterator", data := .fields #[.ref l, .int 0 0] } : Obj) at0
        exact (setObjOf_fresh (knd := knd) led).setOf at1 (by unfold scanBound; omega)
      · rintro ⟨h', g', d', tk', os'⟩ mv has
        obtain rfl : g' = s.gens := mv.gens
        obtain rfl : d' = s.drawn := mv.drawn
        obtain rfl : os' = s.os := mv.os
        refine wpAny_pure (wpAny_pure ⟨rfl, h', tk', rfl, has, fun b o e => ?_⟩)
        have ltb := Heap.lt_size e
        refine mv.heap b o ?_ (Heap.get?_push_of_some _ (Heap.get?_push_of_some _ e))
        rw [Heap.size_push]
        simp only [List.mem_cons, List.not_mem_nil, or_false, not_or]
        exact ⟨Nat.ne_of_lt ltb, Nat.ne_of_lt (Nat.lt_succ_of_lt ltb)⟩
    · match r2, hr2 with
      | .error e, hr2 => exact hr2
      | .ok (.ret r), hr2 =>
        obtain ⟨rfl, h', tk, rfl, has, keep⟩ := hr2
        repeat (any_goals (first | assumption | wp_step))
        exact post _ _ has keep
      | .ok .next, hr2 => exact hr2.elim
      | .ok .brk, hr2 => exact hr2.elim
      | .ok .cont, hr2 => exact hr2.elim
  | .ok .next, hr0 => exact hr0.elim
  | .ok .brk, hr0 => exact hr0.elim
  | .ok .cont, hr0 => exact hr0.elim
set_option maxHeartbeats 6400000 in
theorem set_of_tuple {prog : Program} {w : World} {A : Around} {E : Value → Shared → Prop} {s : Shared} {κ : Type} [DecidableEq κ] [BEq κ] [LawfulBEq κ] {knd : KeyKind prog w κ} {l : Addr} {items : Array Value} {Q : Value → Shared → Prop} (hh : A.handled = none) (src : s.heap.IsTuple l items) (key : Nat → κ)
    (is : ∀ (i : Nat) v, items[i]? = some v → knd.is (key i) v = true ∧ v.scannable = true) (room : items.size + 1 < scanBound)
    (post : ∀ (h' : Heap) (tk : Nat), h'.SetOf knd s.heap.objs.size (memOf key items.size) (cntOf key items.size) → (∀ b o, s.heap.get? b = some o → h'.get? b = some o) → Q (.ref s.heap.objs.size) { s with heap := h', toks := tk }) :
    wpAny (model prog w) A (call (.type "set") [.ref l]) Q E s := by
  obtain ⟨mc, mt, mro⟩ := PySem.F.called_set.mro
  have made := PySem.F.called_set.made
  have sub := PySem.F.called_set.sub
  have noT := PySem.F.called_set.notType
  have can := PySem.F.called_set.canCreate
  have chk := PySem.F.typeCall_set_1 (.ref l)
  refine wpAny_call (codeAny_of_tree (show wpAny _ _ (callAny (.type "set") _) _ _ _ from ?_))
  refine wpAny_pure ⟨Code.quiet_builtin _ (by decide +kernel), codeAny_builtin PySem.F.entry_type_call ?_⟩
  rw [A.under_plain (weight_type_call_type "set" [.ref l] []) rfl]
  repeat (any_goals (first | assumption | wp_step))
  let mkO : Bool → Obj := fun led => { cls := .type "set", dict := none, data := .set #[] 0 (.fresh 0 0 led) }
  refine codeAny_mono (code_set_new_1 (.ref l) (E := E) (Q₁ := fun v s1 => ∃ led, v = .ref s.heap.objs.size ∧ s1 = { s with heap := s.heap.push (mkO led) }) fun led => ⟨led, rfl, rfl⟩) fun r0 s0 hr0 => ?_
  match r0, hr0 with
  | .error e, hr0 => exact hr0
  | .ok (.ret v), hr0 =>
    obtain ⟨led, rfl, rfl⟩ := hr0
    have at0 : (s.heap.push (mkO led)).get? s.heap.objs.size = some (mkO led) := Heap.get?_push_size _ rfl
    have ty0 : Shared.TypeIs { s with heap := s.heap.push (mkO led) } (.ref s.heap.objs.size) "set" := ⟨_, at0, rfl⟩
    have ini := PySem.F.called_set.init.lookup
    have bnd := PySem.F.called_set.init.bind (.ref s.heap.objs.size)
    repeat (any_goals (first | assumption | wp_step))
    refine codeAny_mono (codeAny_call_builtin (R := wants (fun r s2 => r = .none ∧ ∃ h' tk, s2 = { s with heap := h', toks := tk } ∧ h'.SetOf knd s.heap.objs.size (memOf key items.size) (cntOf key items.size) ∧ ∀ b o, s.heap.get? b = some o → h'.get? b = some o) E)
      PySem.F.called_set.init.plain PySem.F.entry_set_init (check_set_init_1 ty0 ?_)) fun r2 s2 hr2 => ?_
    · obtain ⟨⟨oc, od, odt, osl⟩, ho, e1, nl, e2⟩ := src
      dsimp only at e1 e2
      subst e1
      subst e2
      have ho1 := Heap.get?_push_of_some (mkO led) ho
      have q1 := PySem.F.sub_tuple_set
      have q2 := PySem.F.sub_tuple_frozenset
      have q3 : (Value.type "tuple" == Value.type "dict") = false := by decide
      have src1 : (s.heap.push (mkO led)).IsTuple l items := ⟨_, ho1, rfl, nl, rfl⟩
      unfold Builtin.«set.__init__» Builtin.Frozenset.updateFrom noKeywords
      generalize hPI : pyIter = PI
      wp_walk
      subst hPI
      refine wpAny_pyIter_tuple src1 (wpAny_bind (wpAny_runValue ?_))
      have lt := Heap.lt_size ho
      have hd3 : A.in1.in1.in1.handled = none := by simp [hh]
      have ne1 : l ≠ (s.heap.push (mkO led)).objs.size := by
        rw [Heap.size_push]
        exact Nat.ne_of_lt (Nat.lt_succ_of_lt lt)
      have out : s.heap.objs.size ∉ [(s.heap.push (mkO led)).objs.size, l] := by
        rw [Heap.size_push]
        simp only [List.mem_cons, List.not_mem_nil, or_false, not_or]
        exact ⟨Nat.ne_of_lt (Nat.lt_succ_self _), Nat.ne_of_gt lt⟩
      refine put_all (W := (Walks.tuple hd3 _ l ne1 items).toS) out key is room items.size 0 _ (Nat.zero_add _) ⟨⟨_, Heap.get?_push_size _ rfl, rfl, rfl⟩, src1.push _⟩ ?_ ?_
      · have at1 := Heap.get?_push_of_some ({ cls := .type "tuple_iterator", data := .fields #[.ref l, .int 0 0] } : Obj) at0
        exact (setObjOf_fresh (knd := knd) led).setOf at1 (by unfold scanBound; omega)
      · rintro ⟨h', g', d', tk', os'⟩ mv has
        obtain rfl : g' = s.gens := mv.gens
        obtain rfl : d' = s.drawn := mv.drawn
        obtain rfl : os' = s.os := mv.os
        refine wpAny_pure (wpAny_pure ⟨rfl, h', tk', rfl, has, fun b o e => ?_⟩)
        have ltb := Heap.lt_size e
        refine mv.heap b o ?_ (Heap.get?_push_of_some _ (Heap.get?_push_of_some _ e))
        rw [Heap.size_push]
        simp only [List.mem_cons, List.not_mem_nil, or_false, not_or]
        exact ⟨Nat.ne_of_lt ltb, Nat.ne_of_lt (Nat.lt_succ_of_lt ltb)⟩
    · match r2, hr2 with
      | .error e, hr2 => exact hr2
      | .ok (.ret r), hr2 =>
        obtain ⟨rfl, h', tk, rfl, has, keep⟩ := hr2
        repeat (any_goals (first | assumption | wp_step))
        exact post _ _ has keep
      | .ok .next, hr2 => exact hr2.elim
      | .ok .brk, hr2 => exact hr2.elim
      | .ok .cont, hr2 => exact hr2.elim
  | .ok .next, hr0 => exact hr0.elim
  | .ok .brk, hr0 => exact hr0.elim
  | .ok .cont, hr0 => exact hr0.elim
/-- len(set(xs)), xs a list or tuple of texts -/
def tLenSetT (K : PySem.W.Frag) (ta : TE) : TE := fun σ H Q => ta σ H fun x H1 => ∃ (l : Addr) (xs : List Str), x = .ref l ∧ (SqL K H1 l (xs.map V.str) ∨ SqT K H1 l (xs.map V.str)) ∧ xs.length ≤ 1000 ∧ Q (.int (cntOf (fun i => xs.getD i Str.empty) xs.length : Nat)) H1
theorem pe_lenSetT {X : Cx} {a : Expr} {ta : TE} {p p2 q pos : Pos} (hg : Gl X "len") (hm : X.mg "len" = none) (hg2 : Gl X "set") (hm2 : X.mg "set" = none) (ha : PE X a ta) (hc : X.calm = true := by rfl)
    (na : starEach [a] X.env = (false, eval a X.env) :: starEach [] X.env := by rfl) : PE X (.Call (.Name "len" p) [.Call (.Name "set" p2) [a] [] q] [] pos) (tLenSetT X.K ta) := by
  refine ⟨fun pins s σ H Q I h => Call_ (ld_blt I hg hm boot_len (callWith_builtin1 (args_cons ?_ rfl) rfl rfl))⟩
  refine Call_ (ld_blt I hg2 hm2 boot_set (callWith_type1 (args_cons (thn (ha.run pins s σ H _ I h) fun v s1 ⟨x, H1, I1, r1, l, xs, e, sq, short, done⟩ => args_nil ?_) na) na rfl))
  subst e
  cases r1
  have fin : ∀ its : List Value, Vals (xs.map V.str) its → ∀ (h' : Heap) (tk : Nat), h'.SetOf (PySem.strKind X.prog X.w) s1.heap.objs.size (memOf (fun i => xs.getD i Str.empty) its.toArray.size) (cntOf (fun i => xs.getD i Str.empty) its.toArray.size) →
      (∀ b o, s1.heap.get? b = some o → h'.get? b = some o) → wpAny (model X.prog X.w) X.A (spliced (backTo pos (starEach [] X.env))) (fun vs s₂ => wpAny (model X.prog X.w) X.A (call (.builtin "len") (Value.ref s1.heap.objs.size :: vs)) (EP X pins σ Q) X.xe s₂) X.xe { s1 with heap := h', toks := tk } := by
    intro its r h' tk has keep
    have many : its.toArray.size = xs.length := by
      rw [List.size_toArray, ← r.length, List.length_map]
    rw [many] at has
    obtain ⟨o, es, ep, t, ho, ex, hd, _, _, _, hf, hn⟩ := has
    have le := cntOf_le (fun i => xs.getD i Str.empty) xs.length
    refine args_nil (call_len_set ho ex hd hf (by rw [hn]; omega) ⟨.int (cntOf (fun i => xs.getD i Str.empty) xs.length : Nat), H1, (I1.kept keep).tok _, ⟨_, by rw [hn]⟩, done⟩)
  have texts : ∀ its : List Value, Vals (xs.map V.str) its → ∀ (i : Nat) v, its.toArray[i]? = some v → (PySem.strKind X.prog X.w).is (xs.getD i Str.empty) v = true ∧ v.scannable = true := by
    intro its r i v hv
    rw [List.getElem?_toArray] at hv
    have hi : i < xs.length := by
      have := r.length
      rw [List.length_map] at this
      rw [this]
      exact (List.getElem?_eq_some_iff.mp hv).1
    obtain ⟨u, hu, ru⟩ := r.get (show (xs.map V.str)[i]? = some (.str xs[i]) by rw [List.getElem?_map, List.getElem?_eq_getElem hi]; rfl)
    rw [hv] at hu
    cases hu
    obtain ⟨t, rfl⟩ := ru
    rw [List.getD_eq_getElem?_getD, List.getElem?_eq_getElem hi]
    exact ⟨by simp [PySem.strKind, Value.isStrOf], rfl⟩
  rcases sq with sq | sq
  · obtain ⟨its, r, pl, hz⟩ := I1.list sq
    have many := r.length
    rw [List.length_map] at many
    exact set_of_list (I1.ok.hd hc) pl.isList _ (texts its r) (by rw [List.size_toArray, ← many]; unfold scanBound; omega) (fin its r)
  · obtain ⟨its, r, pl, hz⟩ := I1.tuple sq
    have many := r.length
    rw [List.length_map] at many
    exact set_of_tuple (I1.ok.hd hc) pl _ (texts its r) (by rw [List.size_toArray, ← many]; unfold scanBound; omega) (fin its r)
end My
set_option maxHeartbeats 4000000
namespace K01
open PySem PySem.Spec PyProof.Rows L2 Evl My LamX
def top (i : Nat) : Stmt := PySem.Challenge.pw_maskededits_k01_levels_told.main.body.getD i (.Pass ⟨0, 0, 0, 0⟩)
abbrev sWord : Stmt := top 8
abbrev sPool : Stmt := top 15
abbrev sTake : Stmt := top 16
/-! ### what is a word, a mark, a name: of data -/
def LET : Str := "abcdefghijklmnopqrstuvwxyz"
def DIG : Str := "0123456789"
def isStr : PyData → Bool
  | .str _ => true
  | _ => false
def isTup : PyData → Bool
  | .tuple _ => true
  | _ => false
def lenOk : PyData → Bool
  | .str s => decide (1 ≤ s.length) && decide (s.length ≤ 8)
  | _ => false
def signIn (z : Str) : PyData → Bool
  | .str s => match s.cps.toList with
    | [c] => decide (c ∈ z.cps.toList)
    | _ => false
  | _ => false
def allIn (z : Str) : PyData → Bool
  | .str s => s.cps.toList.all fun c => decide (c ∈ z.cps.toList)
  | _ => false
def wordD (d : PyData) : Bool := isStr d && lenOk d && allIn LET d
def emptyD : PyData → Bool
  | .str s => decide (s = "")
  | _ => false
def srcD (d : PyData) : Bool := isStr d && (emptyD d || wordD d)
def intD : PyData → Bool
  | .int _ => true
  | _ => false
def rangeD : PyData → Bool
  | .int i => decide (1 ≤ i) && decide (i ≤ 1000000000000000000)
  | _ => false
def markD : PyData → Bool
  | .tuple [a, b, c] => wordD a && srcD b && rangeD c
  | _ => false
def nameD : PyData → Bool
  | .tuple ds => ds.all markD
  | _ => false
def okS (s : Str) : Bool := decide (s.length ≤ 10000) && PyData.strOk s
mutual
/-- texts and rows of a size that can be handled -/
def small : PyData → Bool
  | .none => true
  | .bool _ => true
  | .int _ => true
  | .str s => okS s
  | .tuple ds => decide (ds.length ≤ 1000) && smalls ds
  | .list ds => decide (ds.length ≤ 1000) && smalls ds
  | .dict _ => true
def smalls : List PyData → Bool
  | [] => true
  | d :: ds => small d && smalls ds
end
theorem smalls_of : ∀ {ds : List PyData} {d : PyData}, smalls ds = true → d ∈ ds → small d = true
  | e :: ds, d, h, m => by
    have h2 : (small e && smalls ds) = true := h
    rw [Bool.and_eq_true] at h2
    rcases List.mem_cons.mp m with z | z
    · rw [z]
      exact h2.1
    · exact smalls_of h2.2 z
theorem small_tup {ds : List PyData} (h : small (.tuple ds) = true) : ds.length ≤ 1000 ∧ ∀ d ∈ ds, small d = true := by
  have h2 : (decide (ds.length ≤ 1000) && smalls ds) = true := h
  rw [Bool.and_eq_true, decide_eq_true_eq] at h2
  exact ⟨h2.1, fun d m => smalls_of h2.2 m⟩
theorem okS_len {s : Str} (h : okS s = true) : s.length ≤ 10000 := of_decide_eq_true (Bool.and_eq_true_iff.mp h).1
theorem okS_ok {s : Str} (h : okS s = true) : PyData.strOk s = true := (Bool.and_eq_true_iff.mp h).2
theorem small_str {s : Str} (h : small (.str s) = true) : s.length ≤ 10000 := okS_len h
theorem isStr_kit (d : PyData) : kitB (tyD d) "str" = some (isStr d) := match d with
  | .none => (by decide +kernel : kitB "NoneType" "str" = some false)
  | .bool b => (by decide +kernel : kitB "bool" "str" = some false)
  | .int i => (by decide +kernel : kitB "int" "str" = some false)
  | .str s => (by decide +kernel : kitB "str" "str" = some true)
  | .list s => (by decide +kernel : kitB "list" "str" = some false)
  | .tuple s => (by decide +kernel : kitB "tuple" "str" = some false)
  | .dict s => (by decide +kernel : kitB "dict" "str" = some false)
theorem isTup_kit (d : PyData) : kitB (tyD d) "tuple" = some (isTup d) := match d with
  | .none => (by decide +kernel : kitB "NoneType" "tuple" = some false)
  | .bool b => (by decide +kernel : kitB "bool" "tuple" = some false)
  | .int i => (by decide +kernel : kitB "int" "tuple" = some false)
  | .str s => (by decide +kernel : kitB "str" "tuple" = some false)
  | .list s => (by decide +kernel : kitB "list" "tuple" = some false)
  | .tuple s => (by decide +kernel : kitB "tuple" "tuple" = some true)
  | .dict s => (by decide +kernel : kitB "dict" "tuple" = some false)
def isInt : PyData → Bool
  | .int _ => true
  | .bool _ => true
  | _ => false
def isBool : PyData → Bool
  | .bool _ => true
  | _ => false
theorem isInt_kit (d : PyData) : kitB (tyD d) "int" = some (isInt d) := match d with
  | .none => (by decide +kernel : kitB "NoneType" "int" = some false)
  | .bool b => (by decide +kernel : kitB "bool" "int" = some true)
  | .int i => (by decide +kernel : kitB "int" "int" = some true)
  | .str s => (by decide +kernel : kitB "str" "int" = some false)
  | .list s => (by decide +kernel : kitB "list" "int" = some false)
  | .tuple s => (by decide +kernel : kitB "tuple" "int" = some false)
  | .dict s => (by decide +kernel : kitB "dict" "int" = some false)
theorem isBool_kit (d : PyData) : kitB (tyD d) "bool" = some (isBool d) := match d with
  | .none => (by decide +kernel : kitB "NoneType" "bool" = some false)
  | .bool b => (by decide +kernel : kitB "bool" "bool" = some true)
  | .int i => (by decide +kernel : kitB "int" "bool" = some false)
  | .str s => (by decide +kernel : kitB "str" "bool" = some false)
  | .list s => (by decide +kernel : kitB "list" "bool" = some false)
  | .tuple s => (by decide +kernel : kitB "tuple" "bool" = some false)
  | .dict s => (by decide +kernel : kitB "dict" "bool" = some false)
theorem notF {b : Bool} (h : (!b) = false) : b = true := by
  cases b
  · cases h
  · rfl
theorem isStr_is {d : PyData} (h : isStr d = true) : ∃ s, d = .str s := by
  cases d <;> first | exact ⟨_, rfl⟩ | cases h
theorem isTup_is {d : PyData} (h : isTup d = true) : ∃ s, d = .tuple s := by
  cases d <;> first | exact ⟨_, rfl⟩ | cases h
theorem all_signs (z s : Str) : ((signsD s).map (signIn z)).all id = allIn z (.str s) := by
  unfold signsD
  rw [List.map_map, List.all_map]
  rfl

structure Txt (mg : Str → Option Value) : Prop where
  len : mg "len" = none
  all : mg "all" = none
  isn : mg "isinstance" = none
  str : mg "str" = none
  lst : mg "list" = none
  tup : mg "tuple" = none
  set : mg "set" = none
  rng : mg "range" = none
  max : mg "max" = none
  min : mg "min" = none
  rep : mg "repr" = none
  letters : ∃ u, mg "LETTERS" = some u ∧ RelV (.str LET) u
  longest : ∃ u, mg "LONGEST_WORD" = some u ∧ RelV (.int 8) u
  most : ∃ u, mg "MOST_LEVELS" = some u ∧ RelV (.int 8) u

section
variable {K : PySem.W.Frag} {σ : L2.St} {H : Hp} {ta tb tc te : TE}
theorem et_chain {i j k : Int} (ha : Ev ta σ H (.int i)) (hb : Ev tb σ H (.int j)) (hc : Ev tc σ H (.int k)) :
    EvT (tTest (tChain (rI0 fun i j => .bl (decide (i ≤ j))) (rI0 fun i j => .bl (decide (i ≤ j))) ta tb tc)) σ H (decide (i ≤ j) && decide (j ≤ k)) := fun H1 e Q q =>
  ha H1 e _ fun H2 e2 => hb H2 (e.trans e2) _ fun H3 e3 => ⟨i, j, rfl, rfl, decide (i ≤ j), rfl, by
    cases h : decide (i ≤ j) with
    | true => exact hc H3 ((e.trans e2).trans e3) _ fun H4 e4 => ⟨j, k, rfl, rfl, decide (j ≤ k), rfl, by
        have z := q H4 ((e2.trans e3).trans e4)
        rw [h] at z
        exact z⟩
    | false => exact ⟨false, rfl, by
        have z := q H3 (e2.trans e3)
        rw [h] at z
        exact z⟩⟩
theorem ev_chain {i j k : Int} (ha : Ev ta σ H (.int i)) (hb : Ev tb σ H (.int j)) (hc : Ev tc σ H (.int k)) :
    Ev (tChain (rI0 fun i j => .bl (decide (i ≤ j))) (rI0 fun i j => .bl (decide (i ≤ j))) ta tb tc) σ H (.bl (decide (i ≤ j) && decide (j ≤ k))) := fun H1 e Q q =>
  ha H1 e _ fun H2 e2 => hb H2 (e.trans e2) _ fun H3 e3 => ⟨i, j, rfl, rfl, decide (i ≤ j), rfl, by
    cases h : decide (i ≤ j) with
    | true => exact hc H3 ((e.trans e2).trans e3) _ fun H4 e4 => ⟨j, k, rfl, rfl, by
        have z := q H4 ((e2.trans e3).trans e4)
        rw [h] at z
        exact z⟩
    | false =>
        have z := q H3 (e2.trans e3)
        rw [h] at z
        exact z⟩
theorem ed_all {bs : List Bool} (h : EvDL K te σ H (bs.map PyData.bool)) : Ev (tCB (rAll K) (tCons te tNil)) σ H (.bl (bs.all id)) := fun H1 e Q q =>
  h H1 e _ fun p xs H2 _ e2 hx g => ⟨p, bs, rfl, by rw [← g.bls]; exact sq_of hx, q H2 e2⟩
theorem et_yes : EvT tYes σ H true := fun H1 _ _ q => q H1 (Ex.refl H1)
theorem ev_inS {c : Nat} {z : Str} (ha : Ev ta σ H (.str ⟨#[c]⟩)) (hb : Ev tb σ H (.str z)) : Ev (tOp rInS ta tb) σ H (.bl (decide (c ∈ z.cps.toList))) :=
  ev_op ha hb (rv_val fun H1 _ Q q => ⟨c, z, rfl, rfl, q⟩)
/-- [sign in z for sign in text] -/
theorem edl_signs {tl : TE} {s z : Str} {j : Nat} {vs : List Nat} {tz : TE} (h : Ev tl σ H (.str s)) (hs : s.length ≤ 10000) (hw : ∀ x, wipe ((wipe σ vs).set j (some x)) vs = wipe σ vs)
    (hj : ∀ x, ((wipe σ vs).set j (some x))[j]? = some (some x)) (hz : ∀ x H1, Ev tz ((wipe σ vs).set j (some x)) H1 (.str z)) :
    EvDL K (tLc (iStr tl) (gName j) tYes (tOp rInS (tVar j) tz) vs) σ H (((signsD s).map (signIn z)).map PyData.bool) := by
  have len : (signsD s).length ≤ 40000 := by
    have e : (signsD s).length = s.length := by simp [signsD, Str.length]
    omega
  have r := edl_lc (K := K) (tt := tYes) (te := tOp rInS (tVar j) tz) (fun _ => true) (fun d => .bool (signIn z d)) (it_S h) len (fun _ _ _ => rfl) hw (fun _ _ _ _ _ _ => et_yes) (fun x d H1 _ hm g _ => by
    unfold signsD at hm
    rw [List.mem_map] at hm
    obtain ⟨c, _, rfl⟩ := hm
    cases g
    exact ed_bl (ev_inS (ev_var (hj _)) (hz _ _)))
  rw [List.filter_eq_self.mpr (fun _ _ => rfl)] at r
  rw [List.map_map]
  exact r
end

section
variable {P : Program} {w : World} {K : PySem.W.Frag} {mg : Str → Option Value} {base : Heap} {f : Addr} {fd : FuncData}
theorem scWord : FnScope ["thing", "sign"] ["thing"] (defScope sWord) := ⟨rfl, rfl, rfl, by decide +kernel, rfl, by decide +kernel, by decide +kernel⟩
theorem ok_word (F : Fun K "is_word" "is_word" sWord f fd) (T : Txt mg) : FnOk P w K mg base CX0 1 f fd ["thing"] (spD K (fun ds => ∃ d, ds = [d] ∧ small d = true) fun ds => .bool (wordD (ds.headD .none))) := by
  refine F.ok scWord (fun vs H Q E h => ?_) (fun cdv A outer s H vs Q E hr h => ?_)
  · obtain ⟨_, g, ⟨d, rfl, _⟩, _⟩ := h
    exact g.len
  · obtain ⟨_, g, ⟨d, rfl, hd⟩, kQ⟩ := h
    cases g with
    | @cons v _ _ _ g1 g2 =>
    cases g2
    refine ⟨_, pss_cons (ps_if (PW.pt (pw_or (pt_not (pt_val (pe_callB call_isi (by rfl) T.isn (by decide +kernel) (pa_cons (pv 0) (pa_cons (pe_bltn (v := .ty "str") (by rfl) T.str (by decide +kernel) rfl) pa_nil)))))
        (pw_or1 (pt_not (pt_chain op_le op_le pe_int (pe_callB call_len (by rfl) T.len (by decide +kernel) (pa_cons (pv 0) pa_nil)) (C8.pe_gc (v := .int 8) rfl T.longest)))))) (pss_one (ps_ret pe_bl)) pss_nil)
      (pss_one (ps_ret (pe_callB (cr_all rfl) (by rfl) T.all (by decide +kernel) (pa_cons
        (pe_lc (own := [("sign", 1)]) (g := gName 1) (tt := tYes) (te := tOp rInS (tVar 1) (tC (.str LET))) rfl scWord.nd (pi_str (pv 0)) (blkOk_by (own := [("sign", 1)]) (N := ["thing", "sign"]) (sc := defScope sWord) (by decide +kernel))
          (fun _ _ _ _ _ => pg_name (i := 1) scWord.nd rfl (Or.inl rfl)) (fun _ _ _ _ _ => pts_nil) (fun _ _ _ _ _ => pe_cmpR op_inS (pv 1) (C8.pe_gc (v := .str LET) rfl T.letters) rfl)) pa_nil)))), ?_⟩
    have c1 : ∀ (H1 : Hp), Ex H H1 → EvT (tNot (tB (tCB (rIsi K) (tCons (tVar 0) (tCons (tC (.ty "str")) tNil))))) (start ["thing", "sign"] [v]) H1 (!isStr d) := fun H1 e => et_not (et_B (ed_isi (ed_var rfl (Dd.ext e _ _ g1)) (isStr_kit d)))
    refine q_when (b := !isStr d || !lenOk d) (et_or (c1 H (Ex.refl H)) fun hz => ?_) (fun hb H1 e1 => ?_) (fun hb H1 e1 => ?_)
    · obtain ⟨s, rfl⟩ := isStr_is (notF hz)
      cases g1
      refine et_not (et_is (et_chain ev_c (ed_lenS (K := K) (ev_var rfl) (Nat.le_trans (small_str hd) (by decide))) ev_c) ?_)
      show (decide ((1 : Int) ≤ (s.length : Int)) && decide ((s.length : Int) ≤ 8)) = (decide (1 ≤ s.length) && decide (s.length ≤ 8))
      congr 1 <;> exact decide_eq_decide.mpr (by omega)
    · refine s_retD (ed_bl ev_c) fun u H2 e2 gu => kQ u H2 (e1.trans e2) (by
        have z : wordD d = false := by
          unfold wordD
          cases h1 : isStr d <;> cases h2 : lenOk d <;> rw [h1, h2] at hb <;> first | rfl | cases hb
        show Dd K H2 u (.bool (wordD d))
        rw [z]
        exact gu)
    · have z1 : isStr d = true := by
        cases h1 : isStr d
        · rw [h1] at hb
          cases hb
        · rfl
      have z2 : lenOk d = true := by
        cases h1 : lenOk d
        · rw [z1, h1] at hb
          cases hb
        · rfl
      obtain ⟨s, rfl⟩ := isStr_is z1
      cases g1
      refine s_retD (ed_bl (ed_all (edl_signs (s := s) (z := LET) (ev_var rfl) (small_str hd) (fun _ => rfl) (fun _ => rfl) (fun _ _ => ev_c)))) fun u H2 e2 gu => kQ u H2 (e1.trans e2) (by
        show Dd K H2 u (.bool (wordD (.str s)))
        unfold wordD
        rw [z1, z2, ← all_signs]
        exact gu)
end

def ok1 : List PyData → Prop := fun ds => ∃ d, ds = [d] ∧ small d = true
/-- a def that answers a Bool to a datum -/
def spB (K : PySem.W.Frag) (F : PyData → Bool) : Sp := spD K ok1 fun ds => .bool (F (ds.headD .none))
theorem spB_ok {K : PySem.W.Frag} {F : PyData → Bool} {d : PyData} {b : Bool} (h : small d = true) (e : F d = b) : SpD K (spB K F) [d] (.bool b) := spD_ok ⟨d, rfl, h⟩ (by rw [← e]; rfl)
section
variable {K : PySem.W.Frag} {σ : L2.St} {H : Hp} {te ta tb : TE} {d : PyData}
theorem ev_spB {F : PyData → Bool} {E : XK} (h : EvD K te σ H d) (hd : small d = true) : Ev (tCall (spB K F) [] E (tCons te tNil)) σ H (.bl (F d)) := (ed_call (eds_cons h eds_nil) (spB_ok hd rfl)).bl
end
theorem let_mem : ∀ c : Nat, c ∈ LET.cps.toList → 97 ≤ c ∧ c ≤ 122 := by
  have e : LET.cps.toList = [97, 98, 99, 100, 101, 102, 103, 104, 105, 106, 107, 108, 109, 110, 111, 112, 113, 114, 115, 116, 117, 118, 119, 120, 121, 122] := by decide +kernel
  rw [e]
  intro c h
  simp at h
  omega
/-- a text of small letters -/
def Low (s : Str) : Prop := ∀ c ∈ s.cps.toList, 97 ≤ c ∧ c ≤ 122
theorem low_of {s : Str} (h : wordD (.str s) = true) : Low s := by
  unfold wordD at h
  rw [Bool.and_eq_true] at h
  have h3 : (s.cps.toList.all fun c => decide (c ∈ LET.cps.toList)) = true := h.2
  rw [List.all_eq_true] at h3
  exact fun c hc => let_mem c (of_decide_eq_true (h3 c hc))
theorem low_empty : Low "" := fun c hc => by
  have e : (Str.ofString "").cps.toList = [] := by decide +kernel
  rw [e] at hc
  cases hc
theorem low_ok {s : Str} (h : Low s) : PyData.strOk s = true := by
  unfold PyData.strOk
  rw [← Array.all_toList, List.all_eq_true]
  exact fun c hc => decide_eq_true (by have := h c hc; omega)
/-- all but what lies at fp stands -/
def But (fp : Addr) (H H' : Hp) : Prop := ∀ b o, b ≠ fp → H b = some o → H' b = some o
theorem But.refl (fp : Addr) (H : Hp) : But fp H H := fun _ _ _ h => h
theorem But.ex {fp : Addr} {H H' H2 : Hp} (b : But fp H H') (e : Ex H' H2) : But fp H H2 := fun a o n h => e a o (b a o n h)
theorem But.upd {fp : Addr} {H H' : Hp} {o : HO} (b : But fp H H') : But fp H (L2.upd H' fp o) := fun a u n h => by
  rw [upd_ne n]
  exact b a u n h
theorem But.of {fp : Addr} {H0 H H' : Hp} (e : Ex H0 H) (n : H0 fp = none) (b : But fp H H') : Ex H0 H' := fun a o h => b a o (ne_of_none h n) (e a o h)
section
variable {K : PySem.W.Frag} {σ : L2.St} {H : Hp} {ta te tb : TE} {D : Ends} {d : PyData}
theorem s_appD {l : Addr} {xs : List V} (hl : H l = some (.lst xs)) (ha : Ev ta σ H (.ref l)) (h : EvD K te σ H d) (hz : xs.length < 100000) (k : ∀ v H1, Ex H H1 → Dd K H1 v d → D.nx σ (upd H1 l (.lst (xs ++ [v])))) :
    tDrop (tBM K "list" rAppend ta (tCons te tNil)) D σ H := ha H (Ex.refl H) _ fun H1 e1 =>
  ⟨Or.inl ⟨rfl, xs, sq_of (e1 l _ hl)⟩, h H1 e1 _ fun v H2 e2 g => ⟨l, xs, v, rfl, rfl, e2 l _ (e1 l _ hl), sz_lt hz, k v H2 (e1.trans e2) g⟩⟩
theorem ed_if {t : TT} {b : Bool} (h : EvT t σ H b) (h1 : b = true → ∀ H1, Ex H H1 → EvD K ta σ H1 d) (h2 : b = false → ∀ H1, Ex H H1 → EvD K tb σ H1 d) : EvD K (tIf t ta tb) σ H d := fun H1 e Q q =>
  h H1 e _ fun H2 e2 => by
    cases hb : b with
    | true =>
      show ta σ H2 Q
      exact h1 hb H2 (e.trans e2) H2 (Ex.refl _) Q fun v H3 e3 g => q v H3 (e2.trans e3) g
    | false =>
      show tb σ H2 Q
      exact h2 hb H2 (e.trans e2) H2 (Ex.refl _) Q fun v H3 e3 g => q v H3 (e2.trans e3) g
end
section
variable {σ : L2.St} {H : Hp} {ta tb te : TE} {i j : Int} {K : PySem.W.Frag}
theorem evAdd (ha : Ev ta σ H (.int i)) (hb : Ev tb σ H (.int j)) : Ev (tOp (rI0 fun i j => .int (i + j)) ta tb) σ H (.int (i + j)) := ev_op ha hb rv_I0
theorem evMul (ha : Ev ta σ H (.int i)) (hb : Ev tb σ H (.int j)) (h : CMul i j) : Ev (tOp (rI CMul fun i j => .int (i * j)) ta tb) σ H (.int (i * j)) := ev_op ha hb (rv_I h)
theorem evMod (ha : Ev ta σ H (.int i)) (hb : Ev tb σ H (.int j)) (h : 0 < j) : Ev (tOp (rI (fun _ j => 0 < j) fun i j => .int (i % j)) ta tb) σ H (.int (i % j)) := ev_op ha hb (rv_I h)
theorem evDiv (ha : Ev ta σ H (.int i)) (hb : Ev tb σ H (.int j)) (h : CDiv i j) : Ev (tOp (rI CDiv fun i j => .int (i / j)) ta tb) σ H (.int (i / j)) := ev_op ha hb (rv_I h)
theorem evPow (ha : Ev ta σ H (.int i)) (hb : Ev tb σ H (.int j)) (h : CPow i j) : Ev (tOp (rI CPow fun i j => .int (i ^ j.toNat)) ta tb) σ H (.int (i ^ j.toNat)) := ev_op ha hb (rv_I h)
theorem etLt (ha : Ev ta σ H (.int i)) (hb : Ev tb σ H (.int j)) : EvT (tTest (tOp (rI0 fun i j => .bl (decide (i < j))) ta tb)) σ H (decide (i < j)) := et_test (ev_op ha hb rv_I0)
theorem etGt (ha : Ev ta σ H (.int i)) (hb : Ev tb σ H (.int j)) : EvT (tTest (tOp (rI0 fun i j => .bl (decide (j < i))) ta tb)) σ H (decide (j < i)) := et_test (ev_op ha hb rv_I0)
end
/-- the pool of a cell: two numbers, the second one small -/
def spPool (K : PySem.W.Frag) : Sp := fun vs H Q _ => ∃ (a : Addr) (ns : List Int) (k : Nat), vs = [.ref a, .int (k : Int)] ∧ SqL K H a (ns.map V.int) ∧ ns.length ≤ 63 ∧ k ≤ 63 ∧
  ∀ p c z H', H p = none → Ex H H' → H' p = some (.lst [.int c, .int z]) → 0 ≤ c → 0 ≤ z → z < 2147483648 → Q (.ref p) H'
/-- a draw: the pool turns, the number lies below sides -/
def spTake : Sp := fun vs H Q _ => ∃ (p : Addr) (c z sides : Int), vs = [.ref p, .int sides] ∧ H p = some (.lst [.int c, .int z]) ∧ 0 ≤ c ∧ 0 ≤ z ∧ z < 2147483648 ∧ 0 < sides ∧ sides < 1073741824 ∧
  ∀ n c' z', 0 ≤ n → n < sides → 0 ≤ c' → 0 ≤ z' → z' < 2147483648 → Q (.int n) (upd H p (.lst [.int c', .int z']))
section
variable {P : Program} {w : World} {K : PySem.W.Frag} {mg : Str → Option Value} {base : Heap} {f : Addr} {fd : FuncData}
theorem scPool : FnScope ["_law_script", "_law_k", "_law_cell", "_law_seed"] ["_law_script", "_law_k"] (defScope sPool) := ⟨rfl, rfl, rfl, by decide +kernel, rfl, by decide +kernel, by decide +kernel⟩
theorem ok_pool (F : Fun K "_law_pool" "_law_pool" sPool f fd) (T : mg "len" = none) : FnOk P w K mg base CX0 1 f fd ["_law_script", "_law_k"] (spPool K) := by
  refine F.ok scPool (fun vs H Q E h => ?_) (fun cdv A outer s H vs Q E hr h => ?_)
  · obtain ⟨a, ns, k, rfl, _⟩ := h
    rfl
  · obtain ⟨a, ns, k, rfl, hS, hlen, k63, kQ⟩ := h
    have hk : (0 : Int) ≤ (k : Int) ∧ (k : Int) ≤ 63 := ⟨by omega, by omega⟩
    refine ⟨_, pss_cons (ps_set (i := 2) scPool.nd rfl (Or.inl rfl) pe_int)
      (pss_cut (ps_if (pt_cmpR op_lt (pv 1) (pe_callB call_len_seq (by rfl) T PySem.boot_len (pa_cons (pv 0) pa_nil)) (nomark _))
        (pss_one (ps_set (i := 2) scPool.nd rfl (Or.inl rfl) (pe_ix ix_list (pv 0) (pv 1) (fun _ _ => rfl)))) pss_nil)
      (pss_cons (ps_set (i := 3) scPool.nd rfl (Or.inl rfl) (pe_op op_mod (pe_op op_mul (pe_op op_add (pe_op op_add (pe_op op_mod (pv 2) pe_int) (pe_op op_mul (pe_op op_mul pe_int (pv 1)) (pv 1))) pe_int) pe_int) pe_int))
      (pss_cut (ps_if (pt_cmpR op_lt (pv 2) (pe_op op_pow pe_int pe_int) (nomark _)) (pss_one (ps_set (i := 2) scPool.nd rfl (Or.inl rfl) pe_int)) pss_nil)
      (pss_one (ps_ret (pe_lst (pa_cons (pv 2) (pa_cons (pe_op op_add (pe_op op_mod (pe_op op_mul (pv 3) (pv 3)) pe_int) pe_int) pa_nil)))))))), ?_⟩
    refine q_asg ev_c fun H1 e1 => ?_
    refine q_cut (M := fun σ' H' => ∃ c : Int, σ' = [some (.ref a), some (.int (k : Int)), some (.int c), none] ∧ Ex H H') ?_ ?_
    · refine s_when (etLt (ev_var rfl) (ev_len (ev_var rfl) (ex_l e1 hS))) (fun hb H2 e2 => ?_) (fun hb H2 e2 => ⟨0, rfl, e1.trans e2⟩)
      have lt : k < ns.length := by
        have q := of_decide_eq_true hb
        rw [List.length_map] at q
        omega
      have get : atI (ns.map V.int) (k : Int) = some (V.int ns[k]) := by
        refine atI_nat ?_
        rw [List.getElem?_map, List.getElem?_eq_getElem lt]
        rfl
      exact s_asg (ev_op (ev_var rfl) (ev_var rfl) (rv_ixL (ex_l (e1.trans e2) hS) get)) fun H3 e3 => ⟨ns[k], rfl, (e1.trans e2).trans e3⟩
    · rintro σ' H2 ⟨c, rfl, e2⟩
      have seed : ∀ y : Int, 0 ≤ y % 2147483647 ∧ y % 2147483647 < 2147483648 := fun y => ⟨Int.emod_nonneg y (by decide), by have := Int.emod_lt_of_pos y (show (0 : Int) < 2147483647 by decide); omega⟩
      refine q_asg (evMod (evMul (evAdd (evAdd (evMod (ev_var rfl) ev_c (by decide)) (evMul (evMul ev_c (ev_var rfl) (Or.inl (by decide))) (ev_var rfl) (Or.inl ⟨by omega, by omega⟩))) ev_c) ev_c (Or.inr (by decide))) ev_c (by decide)) fun H3 e3 => ?_
      generalize hx : ((c % 2147483629 + 7919 * (k : Int) * (k : Int) + 13) * 48271) % 2147483647 = x
      have x01 : 0 ≤ x ∧ x < 2147483648 := by
        rw [← hx]
        exact seed _
      refine q_cut (M := fun σ' H' => ∃ c : Int, 0 ≤ c ∧ σ' = [some (.ref a), some (.int (k : Int)), some (.int c), some (.int x)] ∧ Ex H H') ?_ ?_
      · refine s_when (etLt (ev_var rfl) (evPow ev_c ev_c ⟨by decide, by decide, by decide⟩)) (fun hb H4 e4 => ?_) (fun hb H4 e4 => ?_)
        · exact s_asg ev_c fun H5 e5 => ⟨0, by omega, rfl, ((e2.trans e3).trans e4).trans e5⟩
        · refine ⟨c, ?_, rfl, (e2.trans e3).trans e4⟩
          have q := of_decide_eq_false hb
          have big : (0 : Int) ≤ 10 ^ (18 : Int).toNat := by decide
          omega
      · rintro σ'' H4 ⟨c', c0, rfl, e4⟩
        refine s_retL (el_lst (ea_cons (ev_var rfl) (ea_cons (evAdd (evMod (evMul (ev_var rfl) (ev_var rfl) (Or.inl ⟨by omega, by omega⟩)) ev_c (by decide)) ev_c) ea_nil)) (by simp)) fun p H5 hp e5 h5 => ?_
        exact kQ p _ _ H5 (fresh_back e4 hp) (e4.trans e5) h5 c0 (by have := Int.emod_nonneg (x * x) (show (2147483587 : Int) ≠ 0 by decide); omega)
          (by have := Int.emod_lt_of_pos (x * x) (show (0 : Int) < 2147483587 by decide); omega)

theorem scTake : FnScope ["_law_pool_here", "_law_sides", "_law_found"] ["_law_pool_here", "_law_sides"] (defScope sTake) := ⟨rfl, rfl, rfl, by decide +kernel, rfl, by decide +kernel, by decide +kernel⟩
theorem ok_take (F : Fun K "_law_take" "_law_take" sTake f fd) (T : mg "len" = none) : FnOk P w K mg base CX0 1 f fd ["_law_pool_here", "_law_sides"] spTake := by
  refine F.ok scTake (fun vs H Q E h => ?_) (fun cdv A outer s H vs Q E hr h => ?_)
  · obtain ⟨p, c, z, sides, rfl, _⟩ := h
    rfl
  · obtain ⟨p, c, z, sides, rfl, hp, c0, z0, z1, s0, s1, kQ⟩ := h
    have hL := fun {x y : Int} {H' : Hp} (h : H' p = some (.lst [.int x, .int y])) => (SqL.of h : SqL K H' p [.int x, .int y])
    refine ⟨_, pss_cons (ps_if (pt_cmpR op_gt (pe_ix ix_list (pv 0) pe_int (fun _ _ => rfl)) pe_int (nomark _))
        (pss_cons (ps_set (i := 2) scTake.nd rfl (Or.inl rfl) (pe_op op_mod (pe_ix ix_list (pv 0) pe_int (fun _ _ => rfl)) (pv 1)))
        (pss_cons (ps_asg (pe_op op_fdiv (pe_ix ix_list (pv 0) pe_int (fun _ _ => rfl)) (pv 1)) (pg_sub (pv 0) pe_int set_list))
        (pss_one (ps_ret (pv 2))))) pss_nil)
      (pss_cons (ps_asg (pe_op op_mod (pe_op op_add (pe_op op_mul (pe_ix ix_list (pv 0) pe_int (fun _ _ => rfl)) pe_int) pe_int) pe_int) (pg_sub (pv 0) pe_int set_list))
      (pss_one (ps_ret (pe_op op_mod (pe_op op_fdiv (pe_op op_mod (pe_op op_mul (pe_ix ix_list (pv 0) pe_int (fun _ _ => rfl)) (pe_ix ix_list (pv 0) pe_int (fun _ _ => rfl))) pe_int) pe_int) (pv 1))))), ?_⟩
    refine ⟨_, rfl, p, [.int c, .int z], 0, .int c, rfl, rfl, hL hp, rfl, c, 0, rfl, rfl, _, rfl, ?_⟩
    refine ite2 (fun hc => ?_) (fun hc => ?_)
    · refine ⟨_, rfl, p, [.int c, .int z], 0, .int c, rfl, rfl, hL hp, rfl, _, rfl, c, sides, rfl, rfl, s0, ?_⟩
      refine ⟨_, rfl, p, [.int c, .int z], 0, .int c, rfl, rfl, hL hp, rfl, _, rfl, c, sides, rfl, rfl, ⟨s0, s1⟩, ?_⟩
      refine ⟨_, rfl, p, [.int c, .int z], 0, 0, rfl, rfl, hp, rfl, _, rfl, ?_⟩
      exact kQ _ _ _ (Int.emod_nonneg c (by omega)) (Int.emod_lt_of_pos c s0) (Int.ediv_nonneg c0 (by omega)) z0 z1
    · refine ⟨_, rfl, p, [.int c, .int z], 1, .int z, rfl, rfl, hL hp, rfl, z, 48271, rfl, rfl, Or.inr (by decide), _, 11, rfl, rfl, _, 2147483647, rfl, rfl, (by show (0 : Int) < 2147483647; decide), ?_⟩
      refine ⟨_, rfl, p, [.int c, .int z], 1, 1, rfl, rfl, hp, rfl, ?_⟩
      have z01 : 0 ≤ (z * 48271 + 11) % 2147483647 ∧ (z * 48271 + 11) % 2147483647 < 2147483647 := ⟨Int.emod_nonneg _ (by decide), Int.emod_lt_of_pos _ (by decide)⟩
      have hp' : upd H p (.lst ([V.int c, V.int z].set 1 ((fun i j => V.int (i % j)) (z * 48271 + 11) 2147483647))) p = some (.lst [.int c, .int ((z * 48271 + 11) % 2147483647)]) := upd_same
      refine ⟨_, rfl, p, _, 1, .int ((z * 48271 + 11) % 2147483647), rfl, rfl, hL hp', rfl, _, rfl, p, _, 1, .int ((z * 48271 + 11) % 2147483647), rfl, rfl, hL hp', rfl, _, _, rfl, rfl, Or.inl ⟨by omega, by omega⟩, _, 2147483629, rfl, rfl, (by show (0 : Int) < 2147483629; decide), _, 64, rfl, rfl, ⟨by decide, by decide⟩, _, rfl, _, sides, rfl, rfl, s0, ?_⟩
      exact kQ _ _ _ (Int.emod_nonneg _ (by omega)) (Int.emod_lt_of_pos _ s0) c0 z01.1 (by omega)
end
def PoolAt (H : Hp) (p : Addr) : Prop := ∃ c z : Int, H p = some (.lst [.int c, .int z]) ∧ 0 ≤ c ∧ 0 ≤ z ∧ z < 2147483648
theorem PoolAt.ext {H H' : Hp} {p : Addr} (h : PoolAt H p) (e : Ex H H') : PoolAt H' p := by
  obtain ⟨c, z, h1, h2⟩ := h
  exact ⟨c, z, e _ _ h1, h2⟩
theorem PoolAt.ne {H : Hp} {p q : Addr} (h : PoolAt H p) (n : H q = none) : q ≠ p := fun e => by
  obtain ⟨c, z, h1, _⟩ := h
  rw [e, h1] at n
  cases n
theorem But.trans {p : Addr} {H H1 H2 : Hp} (a : But p H H1) (b : But p H1 H2) : But p H H2 := fun x o n h => b x o n (a x o n h)
theorem But.ofEx {p : Addr} {H H' : Hp} (e : Ex H H') : But p H H' := fun x o _ h => e x o h
section
variable {σ : L2.St} {H : Hp} {te : TE} {p : Addr} {i : Nat} {sides : Int}
theorem take_go {Q : VK} {E : XK} (hp : PoolAt H p) (h0 : σ[i]? = some (some (.ref p))) (hE : Ev te σ H (.int sides)) (hs : 0 < sides ∧ sides < 1073741824)
    (k : ∀ n H', 0 ≤ n → n < sides → But p H H' → PoolAt H' p → Q (.int n) H') : tCall spTake [] E (tCons (tVar i) (tCons te tNil)) σ H Q := by
  refine ⟨_, h0, hE H (Ex.refl _) _ fun H1 e1 => ?_⟩
  obtain ⟨c, z, h1, c0, z0, z1⟩ := hp
  exact ⟨p, c, z, sides, rfl, e1 _ _ h1, c0, z0, z1, hs.1, hs.2, fun n c' z' n0 n1 c0' z0' z1' => k n _ n0 n1 (But.ofEx e1).upd ⟨c', z', upd_same, c0', z0', z1'⟩⟩
end
end K01
set_option maxHeartbeats 4000000
namespace K01
open PySem PySem.Spec PyProof.Rows L2 Evl My LamX
/-! the order and what stands below, as pure functions -/
abbrev txts (ns : List Str) : List PyData := ns.map .str
def newTo (bl : Str → List Str) (l : Str) (r : List Str) : Str → List Str := fun s => if s = l then r else bl s
def foundOf (ns : List Str) (ps : List (Str × Str)) (bl : Str → List Str) (l : Str) : List Str := [ns.headD "", l] ++ (ps.filter fun p => decide (p.2 = l)).flatMap fun p => bl p.1
def rowOf (ns : List Str) (ps : List (Str × Str)) (bl : Str → List Str) (l : Str) : List Str := ns.filter fun w => decide (w ∈ foundOf ns ps bl l)
def belF (ns : List Str) (ps : List (Str × Str)) (pre : List Str) : Str → List Str := pre.foldl (fun bl l => newTo bl l (rowOf ns ps bl l)) fun _ => []
theorem belF_snoc (ns : List Str) (ps : List (Str × Str)) (pre : List Str) (l : Str) : belF ns ps (pre ++ [l]) = newTo (belF ns ps pre) l (rowOf ns ps (belF ns ps pre) l) := by
  unfold belF
  rw [List.foldl_append]
  rfl
theorem newTo_other {bl : Str → List Str} {l s : Str} {r : List Str} (h : s ≠ l) : newTo bl l r s = bl s := if_neg h
theorem newTo_same {bl : Str → List Str} {l : Str} {r : List Str} : newTo bl l r l = r := if_pos rfl
theorem rowOf_rev (ns : List Str) (ps : List (Str × Str)) (bl : Str → List Str) (l : Str) : rowOf ns ps.reverse bl l = rowOf ns ps bl l := by
  unfold rowOf
  congr 1
  funext w
  refine decide_eq_decide.mpr ?_
  unfold foundOf
  simp [List.mem_flatMap]
theorem belF_rev (ns : List Str) (ps : List (Str × Str)) (pre : List Str) : belF ns ps.reverse pre = belF ns ps pre := by
  unfold belF
  congr 1
  funext bl l
  rw [rowOf_rev]
theorem rowOf_sub (ns : List Str) (ps : List (Str × Str)) (bl : Str → List Str) (l : Str) : ∀ w ∈ rowOf ns ps bl l, w ∈ ns := fun w h => (List.mem_filter.mp h).1
theorem belF_len (ns : List Str) (ps : List (Str × Str)) : ∀ (pre : List Str) (s : Str), (belF ns ps pre s).length ≤ ns.length := fun pre => by
  unfold belF
  generalize hb : (fun _ : Str => ([] : List Str)) = b0
  have h0 : ∀ s, (b0 s).length ≤ ns.length := fun s => by
    rw [← hb]
    exact Nat.zero_le _
  clear hb
  induction pre generalizing b0 with
  | nil => exact h0
  | cons l r ih =>
    refine ih _ fun s => ?_
    show (if s = l then rowOf ns ps b0 l else b0 s).length ≤ ns.length
    split
    · exact List.length_filter_le _ _
    · exact h0 s
structure NamesOk (ns : List Str) : Prop where
  one : 1 ≤ ns.length
  eight : ns.length ≤ 8
  word : ∀ s ∈ ns, wordD (.str s) = true
  nd : ns.Nodup
def PairsOk (ns : List Str) (ps : List (Str × Str)) : Prop := ps.length ≤ 10 ∧ ∀ p ∈ ps, ∃ i j : Nat, i < j ∧ ns[i]? = some p.1 ∧ ns[j]? = some p.2
/-! dicts from texts to lists of texts -/
/-- a list of texts that H holds -/
def LsAt (H : Hp) (v : V) (ws : List Str) : Prop := ∃ a, v = .ref a ∧ H a = some (.lst (ws.map V.str))
def KvL (H : Hp) (ka : List (Key × V)) (ks : List Str) (bl : Str → List Str) : Prop := Paired (fun (p : Key × V) (s : Str) => p.1 = .inr s ∧ LsAt H p.2 (bl s)) ka ks
def DcAt (H : Hp) (b : Addr) (ks : List Str) (bl : Str → List Str) : Prop := ∃ ka, H b = some (.dK ka) ∧ KvL H ka ks bl
theorem LsAt.dd {K : PySem.W.Frag} {H : Hp} {v : V} {ws : List Str} (h : LsAt H v ws) : Dd K H v (.list (txts ws)) := by
  obtain ⟨a, rfl, e⟩ := h
  exact .lst (sq_of e) (Dds.strs ws)
theorem paired_app {α β : Type} {R : α → β → Prop} : ∀ {xs : List α} {ys : List β} {xs' : List α} {ys' : List β}, Paired R xs ys → Paired R xs' ys' → Paired R (xs ++ xs') (ys ++ ys')
  | _, _, _, _, .nil, h => h
  | _, _, _, _, .cons z t, h => .cons z (paired_app t h)
section
variable {K : PySem.W.Frag} {H H' : Hp} {ka : List (Key × V)} {ks : List Str} {bl : Str → List Str} {b : Addr}
theorem KvL.map (h : KvL H ka ks bl) (f : ∀ v ws, LsAt H v ws → LsAt H' v ws) : KvL H' ka ks bl := by
  unfold KvL at h ⊢
  induction h with
  | nil => exact .nil
  | cons z _ ih => exact .cons ⟨z.1, f _ _ z.2⟩ ih
theorem LsAt.ext {v : V} {ws : List Str} (e : Ex H H') (h : LsAt H v ws) : LsAt H' v ws := by
  obtain ⟨a, h1, h2⟩ := h
  exact ⟨a, h1, e _ _ h2⟩
theorem LsAt.extN {v : V} {ws : List Str} (e : ExtN H H') (h : LsAt H v ws) : LsAt H' v ws := by
  obtain ⟨a, h1, h2⟩ := h
  exact ⟨a, h1, e _ _ h2 fun _ z => nomatch z⟩
/-- what is not the one object stays -/
theorem LsAt.but {v : V} {ws : List Str} {p : Addr} (b : But p H H') (n : ∀ xs, H p ≠ some (.lst xs)) (h : LsAt H v ws) : LsAt H' v ws := by
  obtain ⟨a, h1, h2⟩ := h
  exact ⟨a, h1, b _ _ (fun e => n _ (by rw [← e]; exact h2)) h2⟩
theorem KvL.ext (e : Ex H H') (h : KvL H ka ks bl) : KvL H' ka ks bl := h.map fun v d g => g.ext e
theorem KvL.extN (e : ExtN H H') (h : KvL H ka ks bl) : KvL H' ka ks bl := h.map fun v d g => g.extN e
theorem KvL.but {p : Addr} (b : But p H H') (n : ∀ xs, H p ≠ some (.lst xs)) (h : KvL H ka ks bl) : KvL H' ka ks bl := h.map fun v d g => g.but b n
theorem DcAt.ext (e : Ex H H') (h : DcAt H b ks bl) : DcAt H' b ks bl := by
  obtain ⟨ka, h1, h2⟩ := h
  exact ⟨ka, e _ _ h1, h2.ext e⟩
theorem DcAt.extN (e : ExtN H H') (h : DcAt H b ks bl) : DcAt H' b ks bl := by
  obtain ⟨ka, h1, h2⟩ := h
  exact ⟨ka, e _ _ h1 (fun _ z => nomatch z), h2.extN e⟩
theorem KvL.none (h : KvL H ka ks bl) {s : Str} (hs : s ∉ ks) : valV ka (.inr s) = none := by
  unfold KvL at h
  induction h with
  | nil => rfl
  | @cons p t ps ts z _ ih =>
    have ne : ¬ p.1 = .inr s := fun e => by
      rw [z.1] at e
      injection e with e
      exact hs (by rw [e]; exact List.mem_cons_self ..)
    rw [valV_neg ne]
    exact ih fun m => hs (List.mem_cons_of_mem _ m)
theorem KvL.some (h : KvL H ka ks bl) {s : Str} (hs : s ∈ ks) : ∃ v, valV ka (.inr s) = some v ∧ LsAt H v (bl s) := by
  unfold KvL at h
  induction h with
  | nil => cases hs
  | @cons p t ps ts z _ ih =>
    by_cases e : t = s
    · subst e
      exact ⟨p.2, valV_pos z.1, z.2⟩
    · have ne : ¬ p.1 = .inr s := fun q => by
        rw [z.1] at q
        injection q with q
        exact e q
      rw [valV_neg ne]
      rcases List.mem_cons.mp hs with q | q
      · exact absurd q.symm e
      · exact ih q
theorem KvL.snoc (h : KvL H ka ks bl) {s : Str} {v : V} {r : List Str} (hs : s ∉ ks) (g : LsAt H v r) : KvL H (putK ka (.inr s) v) (ks ++ [s]) (newTo bl s r) := by
  rw [putK_new v (h.none hs)]
  have h2 : KvL H ka ks (newTo bl s r) := by
    unfold KvL at h ⊢
    have q : ∀ {ka : List (Key × V)} {ks : List Str}, Paired (fun (p : Key × V) (s : Str) => p.1 = .inr s ∧ LsAt H p.2 (bl s)) ka ks → s ∉ ks → Paired (fun (p : Key × V) (t : Str) => p.1 = .inr t ∧ LsAt H p.2 (newTo bl s r t)) ka ks := by
      intro ka ks h hs
      induction h with
      | nil => exact .nil
      | @cons p t ps ts z _ ih =>
        refine .cons ⟨z.1, ?_⟩ (ih fun m => hs (List.mem_cons_of_mem _ m))
        rw [newTo_other fun e => hs (by rw [← e]; exact List.mem_cons_self ..)]
        exact z.2
    exact q h hs
  exact paired_app h2 (.cons ⟨rfl, by
    show LsAt H v (newTo bl s r s)
    rw [newTo_same]
    exact g⟩ .nil)
theorem KvL.len (h : KvL H ka ks bl) : ka.length = ks.length := Paired.length h
end
section
variable {K : PySem.W.Frag} {σ : L2.St} {H : Hp} {ta tb td ty te : TE} {b p : Addr} {ks : List Str} {bl : Str → List Str} {s : Str} {xs : List V} {ws : List Str} {D : Ends} {i : Nat}
/-- d[s] -/
theorem ed_dget (hd : Ev td σ H (.ref b)) (h : DcAt H b ks bl) (hy : Ev ty σ H (.str s)) (hs : s ∈ ks) : EvD K (tDGet td ty) σ H (.list (txts (bl s))) := fun H1 e Q q =>
  hd H1 e _ fun H2 e2 => hy H2 (e.trans e2) _ fun H3 e3 => by
    obtain ⟨ka, h1, h2⟩ := h.ext ((e.trans e2).trans e3)
    obtain ⟨v, h3, g⟩ := h2.some hs
    exact ⟨b, v, rfl, by rw [← h3]; exact DGet.k (k := .inr s) h1, q v H3 (e2.trans e3) g.dd⟩
/-- s in d -/
theorem ev_din (hy : Ev ty σ H (.str s)) (hd : Ev td σ H (.ref b)) (h : DcAt H b ks bl) : Ev (tDIn ty td) σ H (.bl (decide (s ∈ ks))) := fun H1 e Q q =>
  hy H1 e _ fun H2 e2 => hd H2 (e.trans e2) _ fun H3 e3 => by
    obtain ⟨ka, h1, h2⟩ := h.ext ((e.trans e2).trans e3)
    refine ⟨b, _, rfl, DGet.k (k := .inr s) h1, ?_⟩
    have z := q H3 (e2.trans e3)
    by_cases hs : s ∈ ks
    · obtain ⟨v, h3, _⟩ := h2.some hs
      rw [h3]
      rw [decide_eq_true hs] at z
      exact z
    · rw [h2.none hs]
      rw [decide_eq_false hs] at z
      exact z
theorem inV_txts (s : Str) (ws : List Str) : inV (.str s) (ws.map V.str) = decide (s ∈ ws) := by
  unfold inV
  rw [List.any_map, Bool.eq_iff_iff, List.any_eq_true, decide_eq_true_eq]
  constructor
  · rintro ⟨y, hy, e⟩
    have : y = s := by
      have e2 : (y == s) = true := e
      exact beq_iff_eq.mp e2
    rw [← this]
    exact hy
  · intro h
    exact ⟨s, h, (by show (s == s) = true; exact beq_iff_eq.mpr rfl)⟩
theorem flat_txts (ws : List Str) : (ws.map V.str).all flatV = true := by
  rw [List.all_map, List.all_eq_true]
  exact fun _ _ => rfl
/-- s in a list of texts -/
theorem ev_inL (ha : Ev ta σ H (.str s)) (hb : EvD K tb σ H (.list (txts ws))) : Ev (tOp (rIn K false) ta tb) σ H (.bl (decide (s ∈ ws))) := fun H1 e Q q =>
  ha H1 e _ fun H2 e2 => hb H2 (e.trans e2) _ fun v H3 e3 g => by
    cases g with
    | @lst a xs _ hx g =>
      rw [Dds.txts g] at hx
      exact ⟨a, ws.map V.str, rfl, .inl hx, rfl, flat_txts ws, by
        show Q (.bl (inV (.str s) (ws.map V.str))) H3
        rw [inV_txts]
        exact q H3 (e2.trans e3)⟩
end
/-! equal lists of texts -/
theorem eqv_txts : ∀ ws vs : List Str, PyData.eqv (.list (txts ws)) (.list (txts vs)) = decide (ws = vs) := by
  have all : ∀ ws vs : List Str, PyData.eqvAll (txts ws) (txts vs) = decide (ws = vs) := by
    intro ws
    induction ws with
    | nil =>
      intro vs
      cases vs <;> rfl
    | cons w ws ih =>
      intro vs
      cases vs with
      | nil => rfl
      | cons v vs =>
        show (PyData.eqv (.str w) (.str v) && PyData.eqvAll (txts ws) (txts vs)) = _
        rw [ih]
        show ((w == v) && decide (ws = vs)) = _
        rw [Bool.eq_iff_iff, Bool.and_eq_true, beq_iff_eq, decide_eq_true_eq, decide_eq_true_eq, List.cons.injEq]
  exact all
end K01
set_option maxHeartbeats 8000000
namespace K01
open PySem PySem.Spec PyProof.Rows L2 Evl My LamX
abbrev sNames : Stmt := top 9
abbrev sPair : Stmt := top 10
abbrev sPairs : Stmt := top 11
abbrev sBelow : Stmt := top 12
def isSeq : PyData → Bool
  | .list _ => true
  | .tuple _ => true
  | _ => false
def isLst : PyData → Bool
  | .list _ => true
  | _ => false
def seqOf : PyData → List PyData
  | .list ds => ds
  | .tuple ds => ds
  | _ => []
def strD : PyData → Str
  | .str s => s
  | _ => ""
theorem isLst_kit (d : PyData) : kitB (tyD d) "list" = some (isLst d) := match d with
  | .none => (by decide +kernel : kitB "NoneType" "list" = some false)
  | .bool b => (by decide +kernel : kitB "bool" "list" = some false)
  | .int i => (by decide +kernel : kitB "int" "list" = some false)
  | .str s => (by decide +kernel : kitB "str" "list" = some false)
  | .list s => (by decide +kernel : kitB "list" "list" = some true)
  | .tuple s => (by decide +kernel : kitB "tuple" "list" = some false)
  | .dict s => (by decide +kernel : kitB "dict" "list" = some false)
theorem small_seq {d : PyData} (h : small d = true) : (seqOf d).length ≤ 1000 ∧ ∀ x ∈ seqOf d, small x = true := by
  cases d with
  | list ds => exact small_tup h
  | tuple ds => exact small_tup h
  | _ => exact ⟨Nat.zero_le _, fun x m => nomatch m⟩
section
variable {K : PySem.W.Frag} {σ : L2.St} {H : Hp} {te tl ta tb : TE} {d : PyData} {ds : List PyData}
theorem ev_isiLT (h : EvD K te σ H d) : Ev (tCB (rIsiT K) (tCons te (tCons (tTup (tCons (tC (.ty "list")) (tCons (tC (.ty "tuple")) tNil))) tNil))) σ H (.bl (isSeq d)) := fun H1 e Q q =>
  h H1 e _ fun v H2 e2 g => ⟨(by show 2 ≤ sizeLine; decide), fun p hp => by
    have e3 : Ex H2 (upd H2 p (.tup [.ty "list", .ty "tuple"])) := Ex.new hp
    refine ⟨v, p, [.ty "list", .ty "tuple"], .type (tyD d), [.type "list", .type "tuple"], isSeq d, rfl, upd_same, .cons (.ty _) (.cons (.ty _) .nil), (Dd.ext e3 _ _ g).ty, ?_, q _ (e2.trans e3)⟩
    refine kitAny_cons (b := isLst d) (kit_ty (isLst_kit d)) (fun z => kitAny_cons (b := isTup d) (r := isSeq d) (kit_ty (isTup_kit d)) (fun z2 => ?_) fun z2 => ?_) fun z => ?_
    · cases d <;> first | rfl | (cases z2; done) | (cases z; done)
    · cases d <;> first | rfl | (cases z2; done) | (cases z; done)
    · cases d <;> first | rfl | (cases z; done)⟩
theorem ed_lenQ (h : EvD K te σ H d) (hs : isSeq d = true) : Ev (tCB (rLenD K) (tCons te tNil)) σ H (.int ((seqOf d).length : Int)) := fun H1 e1 Q q =>
  h H1 e1 _ fun v H2 e2 g => by
    cases d with
    | list ds =>
      cases g with
      | lst hx ha => exact ⟨_, ds.length, rfl, .inl ⟨_, hx, ha.len.symm⟩, q H2 e2⟩
    | tuple ds =>
      cases g with
      | tup hx ha => exact ⟨_, ds.length, rfl, .inr ⟨_, hx, ha.len.symm⟩, q H2 e2⟩
    | _ => cases hs
/-- a walk over a list or a tuple -/
def iSeq (K : PySem.W.Frag) (tl : TE) : TI := fun σ H R => iList K tl σ H R ∨ iTup K tl σ H R
theorem it_LD (h : EvD K tl σ H (.list ds)) : EvIt K (iList K tl) σ H ds := fun H1 e R k =>
  h H1 e _ fun v H2 e2 g => by
    cases g with
    | @lst a xs _ hs ha => exact ⟨a, rfl, ⟨xs, hs⟩, k _ H2 e2 (walk_L hs ha)⟩
theorem it_seq (h : EvD K tl σ H d) (hs : isSeq d = true) : EvIt K (iSeq K tl) σ H (seqOf d) := fun H1 e R k => by
  cases d with
  | list ds => exact .inl (it_LD h H1 e R k)
  | tuple ds => exact .inr (it_T h H1 e R k)
  | _ => cases hs
/-- all([F(x) for x in ..]) -/
theorem ev_allC {wi : TI} {j : Nat} {vs : List Nat} (F : PyData → Bool) (it : EvIt K wi σ H ds) (hz : ds.length ≤ 40000) (hw : ∀ x, wipe ((wipe σ vs).set j (some x)) vs = wipe σ vs)
    (step : ∀ x d H1, Ex H H1 → d ∈ ds → Dd K H1 x d → Ev te ((wipe σ vs).set j (some x)) H1 (.bl (F d))) : Ev (tCB (rAll K) (tCons (tLc wi (gName j) tYes te vs) tNil)) σ H (.bl (ds.all F)) := by
  have r := edl_lc (K := K) (tt := tYes) (te := te) (fun _ => true) (fun d => .bool (F d)) it hz (fun _ _ _ => rfl) hw (fun _ _ _ _ _ _ => et_yes) (fun x d H1 e m g _ => ed_bl (step x d H1 e m g))
  rw [List.filter_eq_self.mpr (fun _ _ => rfl)] at r
  have e : ds.map (fun d => PyData.bool (F d)) = (ds.map F).map PyData.bool := by
    rw [List.map_map]
    rfl
  rw [e] at r
  refine ev_is (ed_all r) ?_
  rw [List.all_map]
  rfl
end
theorem pi_seq {X : Cx} {tg l : Expr} {tl : TE} (hl : PE X l tl) : PI X tg l (iSeq X.K tl) := ⟨fun pins s σ H R I h => by
  rcases h with h | h
  · exact (pi_list hl).run pins s σ H R I h
  · exact (pi_tup hl).run pins s σ H R I h⟩
/-! ### what are names -/
def len8 (d : PyData) : Bool := decide (1 ≤ (seqOf d).length) && decide ((seqOf d).length ≤ 8)
def difD (d : PyData) : Bool := decide ((seqOf d).map strD).Nodup
def namesD (d : PyData) : Bool := (isSeq d && len8 d) && ((seqOf d).all wordD && difD d)
theorem word_is {d : PyData} (h : wordD d = true) : d = .str (strD d) := by
  cases d with
  | str s => rfl
  | _ => cases h
theorem words_are : ∀ {ds : List PyData}, ds.all wordD = true → ds = txts (ds.map strD)
  | [], _ => rfl
  | d :: ds, h => by
    rw [List.all_cons, Bool.and_eq_true] at h
    have e := word_is h.1
    have ih := words_are h.2
    rw [List.map_cons, txts, List.map_cons, ← e]
    congr 1
theorem cnt_nodup (ws : List Str) : decide (cntOf (fun i => ws.getD i Str.empty) ws.length = ws.length) = decide ws.Nodup := by
  refine decide_eq_decide.mpr ((cntOf_all _ _).trans ?_)
  rw [List.nodup_iff_pairwise_ne, List.pairwise_iff_getElem]
  constructor
  · intro h i j hi hj ij e
    refine h i j ij hj ?_
    rw [List.getD_eq_getElem?_getD, List.getD_eq_getElem?_getD, List.getElem?_eq_getElem hi, List.getElem?_eq_getElem hj, e]
  · intro h i j ij hj e
    have hi : i < ws.length := by omega
    rw [List.getD_eq_getElem?_getD, List.getD_eq_getElem?_getD, List.getElem?_eq_getElem hi, List.getElem?_eq_getElem hj] at e
    exact h i j hi hj ij e
section
variable {P : Program} {w : World} {K : PySem.W.Frag} {mg : Str → Option Value} {base : Heap} {f : Addr} {fd : FuncData}
theorem scNames : FnScope ["thing", "word"] ["thing"] (defScope sNames) := ⟨rfl, rfl, rfl, by decide +kernel, rfl, by decide +kernel, by decide +kernel⟩
theorem ok_names (F : Fun K "are_names" "are_names" sNames f fd) (T : Txt mg) (W : Df P w K mg base "is_word" ["thing"] 1 (spB K wordD)) : FnOk P w K mg base CX0 2 f fd ["thing"] (spB K namesD) := by
  refine F.ok scNames (fun vs H Q E h => ?_) (fun cdv A outer s H vs Q E hr h => ?_)
  · obtain ⟨_, g, ⟨d, rfl, _⟩, _⟩ := h
    exact g.len
  · obtain ⟨_, g, ⟨d, rfl, hd⟩, kQ⟩ := h
    cases g with
    | @cons v _ _ _ g1 g2 =>
    cases g2
    refine ⟨_, pss_cons (ps_if (PW.pt (pw_or (pt_not (pt_val (pe_callB call_isiT (by rfl) T.isn (by decide +kernel) (pa_cons (pv 0) (pa_cons (pe_tup (pa_cons (pe_bltn (v := .ty "list") (by rfl) T.lst (by decide +kernel) rfl) (pa_cons (pe_bltn (v := .ty "tuple") (by rfl) T.tup (by decide +kernel) rfl) pa_nil))) pa_nil)))))
        (pw_or1 (pt_not (pt_chain op_le op_le pe_int (pe_callB call_len (by rfl) T.len (by decide +kernel) (pa_cons (pv 0) pa_nil)) (C8.pe_gc (v := .int 8) rfl T.most)))))) (pss_one (ps_ret pe_bl)) pss_nil)
      (pss_one (ps_ret (pe_and (pe_callB (cr_all rfl) (by rfl) T.all (by decide +kernel) (pa_cons
        (pe_lc (own := [("word", 1)]) (g := gName 1) (tt := tYes) (te := tCall (spB K wordD) [] E0 (tCons (tVar 1) tNil)) rfl scNames.nd (pi_seq (pv 0)) (blkOk_by (own := [("word", 1)]) (N := ["thing", "word"]) (sc := defScope sNames) (by decide +kernel))
          (fun _ _ _ _ _ => pg_name (i := 1) scNames.nd rfl (Or.inl rfl)) (fun _ _ _ _ _ => pts_nil) (fun _ _ _ _ _ => pe_df W (hr.mono (by decide)) rfl (pa_cons (pv 1) pa_nil))) pa_nil))
        (pe_one (pe_cmpR op_eq (pe_lenSetT (by rfl) T.len (by rfl) T.set (pv 0)) (pe_callB call_len (by rfl) T.len (by decide +kernel) (pa_cons (pv 0) pa_nil)) (nomark _)))))), ?_⟩
    have gv : ∀ {H1 : Hp}, Ex H H1 → EvD K (tVar 0) (start ["thing", "word"] [v]) H1 d := fun e => ed_var rfl (Dd.ext e _ _ g1)
    refine q_when (b := !isSeq d || !len8 d) (et_or (et_not (et_B (ev_isiLT (gv (Ex.refl _))))) fun hz => et_not (et_is (et_chain ev_c (ed_lenQ (gv (Ex.refl _)) (notF hz)) ev_c) ?_)) (fun hb H1 e1 => ?_) (fun hb H1 e1 => ?_)
    · show (decide ((1 : Int) ≤ ((seqOf d).length : Int)) && decide (((seqOf d).length : Int) ≤ 8)) = len8 d
      unfold len8
      congr 1 <;> exact decide_eq_decide.mpr (by omega)
    · refine s_retD (K := K) (ed_bl ev_c) fun u H2 e2 gu => kQ u H2 (e1.trans e2) (by
        have z : namesD d = false := by
          unfold namesD
          cases h1 : isSeq d <;> cases h2 : len8 d <;> rw [h1, h2] at hb <;> first | rfl | cases hb
        show Dd K H2 u (.bool (namesD d))
        rw [z]
        exact gu)
    · have hs : isSeq d = true := by
        cases h1 : isSeq d
        · rw [h1] at hb
          cases hb
        · rfl
      have h8 : len8 d = true := by
        cases h1 : len8 d
        · rw [hs, h1] at hb
          cases hb
        · rfl
      have sm := small_seq hd
      refine s_retD (K := K) (ed_bl (z := namesD d) (ev_is (ev_andV (b := difD d) (ev_allC (j := 1) (vs := [1]) wordD (it_seq (gv e1) hs) (by omega) (fun _ => rfl) fun x d' H2 _ m g => ev_spB (ed_var rfl g) (sm.2 d' m)) fun hw => ?_) ?_)) fun u H2 e2 gu => kQ u H2 (e1.trans e2) gu
      · have ws := words_are hw
        have ln : ((seqOf d).map strD).length = (seqOf d).length := List.length_map ..
        have h1 : Ev (tLenSetT K (tVar 0)) (start ["thing", "word"] [v]) H1 (.int (cntOf (fun i => ((seqOf d).map strD).getD i Str.empty) ((seqOf d).map strD).length : Nat)) := fun H3 e3 Q2 q2 => by
          refine gv e1 H3 e3 _ fun v2 H4 e4 g4 => ?_
          have fin := q2 H4 e4
          cases d with
          | list ds =>
            cases g4 with
            | @lst a xs _ hx ha =>
              rw [show ds = txts (ds.map strD) from ws] at ha
              rw [Dds.txts ha] at hx
              exact ⟨a, ds.map strD, rfl, .inl hx, by
                have := sm.1
                rw [List.length_map]
                exact this, fin⟩
          | tuple ds =>
            cases g4 with
            | @tup a xs _ hx ha =>
              rw [show ds = txts (ds.map strD) from ws] at ha
              rw [Dds.txts ha] at hx
              exact ⟨a, ds.map strD, rfl, .inr hx, by
                have := sm.1
                rw [List.length_map]
                exact this, fin⟩
          | _ => cases hs
        refine ev_is (ev_op h1 (ed_lenQ (gv e1) hs) (rv_eq rfl)) ?_
        · unfold difD
          rw [← cnt_nodup, ln]
          refine congrArg V.bl (decide_eq_decide.mpr ⟨fun z => ?_, fun z => ?_⟩)
          · injection z with z
            omega
          · rw [z]
      · unfold namesD
        rw [hs, h8]
        cases (seqOf d).all wordD <;> rfl
end
end K01
set_option maxHeartbeats 8000000
namespace K01
open PySem PySem.Spec PyProof.Rows L2 Evl My LamX
/-- the place of a text in a list -/
def ixOf (s : Str) : List Str → Nat
  | [] => 0
  | w :: ws => if w = s then 0 else ixOf s ws + 1
theorem ixOf_at (s : Str) : ∀ {ws : List Str}, s ∈ ws → ws[ixOf s ws]? = some s ∧ ∀ m z, m < ixOf s ws → ws[m]? = some z → z ≠ s
  | w :: ws, h => by
    unfold ixOf
    by_cases e : w = s
    · rw [if_pos e]
      exact ⟨by rw [e]; rfl, fun m z hm => by omega⟩
    · rw [if_neg e]
      have ih := ixOf_at s (ws := ws) (by
        rcases List.mem_cons.mp h with q | q
        · exact absurd q.symm e
        · exact q)
      refine ⟨ih.1, fun m z hm hz => ?_⟩
      cases m with
      | zero =>
        cases hz
        exact e
      | succ m => exact ih.2 m z (by omega) hz
theorem ixOf_nd {ws : List Str} (nd : ws.Nodup) {s : Str} {i : Nat} (h : ws[i]? = some s) : ixOf s ws = i := by
  have m : s ∈ ws := List.mem_of_getElem? h
  obtain ⟨h1, h2⟩ := ixOf_at s m
  obtain ⟨a1, b1⟩ := List.getElem?_eq_some_iff.mp h1
  obtain ⟨a2, b2⟩ := List.getElem?_eq_some_iff.mp h
  rw [List.nodup_iff_pairwise_ne, List.pairwise_iff_getElem] at nd
  rcases Nat.lt_trichotomy (ixOf s ws) i with q | q | q
  · exact absurd (b1.trans b2.symm) (nd _ _ a1 a2 q)
  · exact q
  · exact absurd (b2.trans b1.symm) (nd _ _ a2 a1 q)
def two (d : PyData) : Bool := decide ((seqOf d).length = 2)
def inD (ns : List Str) (d : PyData) : Bool := wordD d && decide (strD d ∈ ns)
def ordD (ns : List Str) (d : PyData) : Bool := match seqOf d with
  | a :: b :: _ => decide (ixOf (strD a) ns < ixOf (strD b) ns)
  | _ => false
def pairB (ns : List Str) (d : PyData) : Bool := (isTup d && two d) && ((seqOf d).all (inD ns) && ordD ns d)
def pairsB (ns : List Str) (d : PyData) : Bool := isSeq d && (seqOf d).all (pairB ns)
section
variable {K : PySem.W.Frag} {σ : L2.St} {H : Hp} {te tl ta tb : TE} {d : PyData} {ds : List PyData} {ns : List Str} {o : Addr} {s : Str}
/-- xs.index(s) -/
theorem ev_index (ha : Ev ta σ H (.ref o)) (ho : SqL K H o (ns.map V.str)) (hb : Ev tb σ H (.str s)) (hs : s ∈ ns) : Ev (tBM K "list" (rIndex K) ta (tCons tb tNil)) σ H (.int (ixOf s ns : Nat)) := fun H1 e Q q =>
  ha H1 e _ fun H2 e2 => ⟨.inl ⟨rfl, _, ex_l (e.trans e2) ho⟩, hb H2 (e.trans e2) _ fun H3 e3 => by
    obtain ⟨h1, h2⟩ := ixOf_at s hs
    refine ⟨o, ns.map V.str, .str s, ixOf s ns, .str s, rfl, rfl, ex_l ((e.trans e2).trans e3) ho, rfl, flat_txts ns, by rw [List.getElem?_map, h1]; rfl, beq_iff_eq.mpr rfl, fun m z' hm hz => ?_, q H3 (e2.trans e3)⟩
    rw [List.getElem?_map] at hz
    cases hx : ns[m]? with
    | none =>
      rw [hx] at hz
      cases hz
    | some y =>
      rw [hx] at hz
      cases hz
      exact beq_eq_false_iff_ne.mpr (h2 m y hm hx)⟩
end
def spPair (K : PySem.W.Frag) : Sp := fun vs H Q _ => ∃ (v : V) (o : Addr) (d : PyData) (ns : List Str), vs = [v, .ref o] ∧ Dd K H v d ∧ small d = true ∧ SqL K H o (ns.map V.str) ∧ ∀ H', Ex H H' → Q (.bl (pairB ns d)) H'
def spPairs (K : PySem.W.Frag) : Sp := fun vs H Q _ => ∃ (v : V) (o : Addr) (d : PyData) (ns : List Str), vs = [v, .ref o] ∧ Dd K H v d ∧ small d = true ∧ SqL K H o (ns.map V.str) ∧ ∀ H', Ex H H' → Q (.bl (pairsB ns d)) H'
section
variable {P : Program} {w : World} {K : PySem.W.Frag} {mg : Str → Option Value} {base : Heap} {f : Addr} {fd : FuncData}
theorem scPair : FnScope ["thing", "order", "word"] ["thing", "order"] (defScope sPair) := ⟨rfl, rfl, rfl, by decide +kernel, rfl, by decide +kernel, by decide +kernel⟩
theorem ok_pairD (F : Fun K "is_pair" "is_pair" sPair f fd) (T : Txt mg) (W : Df P w K mg base "is_word" ["thing"] 1 (spB K wordD)) : FnOk P w K mg base CX0 2 f fd ["thing", "order"] (spPair K) := by
  refine F.ok scPair (fun vs H Q E h => ?_) (fun cdv A outer s H vs Q E hr h => ?_)
  · obtain ⟨v, o, d, ns, rfl, _⟩ := h
    rfl
  · obtain ⟨v, o, d, ns, rfl, g1, hd, ho, kQ⟩ := h
    have hr1 : Room 1 _ := hr.mono (by decide)
    refine ⟨_, pss_cons (ps_if (PW.pt (pw_or (pt_not (pt_val (pe_callB call_isi (by rfl) T.isn (by decide +kernel) (pa_cons (pv 0) (pa_cons (pe_bltn (v := .ty "tuple") (by rfl) T.tup (by decide +kernel) rfl) pa_nil)))))
        (pw_or1 (pt_cmpR op_ne (pe_callB call_len (by rfl) T.len (by decide +kernel) (pa_cons (pv 0) pa_nil)) pe_int (nomark _))))) (pss_one (ps_ret pe_bl)) pss_nil)
      (pss_cons (ps_if (pt_not (pt_val (pe_callB (cr_all rfl) (by rfl) T.all (by decide +kernel) (pa_cons
        (pe_lc (own := [("word", 2)]) (g := gName 2) (tt := tYes) (te := tAndV (tCall (spB K wordD) [] E0 (tCons (tVar 2) tNil)) (tOp (rIn K false) (tVar 2) (tVar 1))) rfl scPair.nd (pi_tup (pv 0)) (blkOk_by (own := [("word", 2)]) (N := ["thing", "order", "word"]) (sc := defScope sPair) (by decide +kernel))
          (fun _ _ _ _ _ => pg_name (i := 2) scPair.nd rfl (Or.inl rfl)) (fun _ _ _ _ _ => pts_nil) (fun _ _ _ _ _ => pe_and (pe_df W hr1 rfl (pa_cons (pv 2) pa_nil)) (pe_one (pe_cmpR op_in_seq (pv 2) (pv 1) rfl)))) pa_nil)))) (pss_one (ps_ret pe_bl)) pss_nil)
      (pss_one (ps_ret (pe_cmpR op_lt (pe_bm PySem.F.plainAttrs_list PySem.F.slot_list_index PySem.F.type_list_index mt_index (pv 1) (pa_cons (pe_ix ix_tup (pv 0) pe_int (fun _ _ => rfl)) pa_nil)) (pe_bm PySem.F.plainAttrs_list PySem.F.slot_list_index PySem.F.type_list_index mt_index (pv 1) (pa_cons (pe_ix ix_tup (pv 0) pe_int (fun _ _ => rfl)) pa_nil)) (nomark _))))), ?_⟩
    have gv : ∀ {H1 : Hp}, Ex H H1 → EvD K (tVar 0) (start ["thing", "order", "word"] [v, .ref o]) H1 d := fun e => ed_var rfl (Dd.ext e _ _ g1)
    refine q_when (b := !isTup d || !two d) (et_or (et_not (et_B (ed_isi (gv (Ex.refl _)) (isTup_kit d)))) fun hz => ?_) (fun hb H1 e1 => ?_) (fun hb H1 e1 => ?_)
    · obtain ⟨ds, rfl⟩ := isTup_is (notF hz)
      refine et_is (et_test (ev_op (ed_lenT (K := K) (gv (Ex.refl _))) ev_c (rv_ne rfl))) ?_
      show (!decide (V.int (ds.length : Int) = V.int 2)) = !decide (ds.length = 2)
      congr 1
      exact decide_eq_decide.mpr ⟨fun z => by injection z with z; omega, fun z => by rw [z]; rfl⟩
    · refine s_retD (K := K) (ed_bl ev_c) fun u H2 e2 gu => ?_
      cases gu
      have z : pairB ns d = false := by
        unfold pairB
        cases h1 : isTup d <;> cases h2 : two d <;> rw [h1, h2] at hb <;> first | rfl | cases hb
      have k := kQ H2 (e1.trans e2)
      rw [z] at k
      exact k
    · have ht : isTup d = true := by
        cases h1 : isTup d
        · rw [h1] at hb
          cases hb
        · rfl
      have h2 : two d = true := by
        cases h1 : two d
        · rw [ht, h1] at hb
          cases hb
        · rfl
      obtain ⟨ds, rfl⟩ := isTup_is ht
      have sm := small_tup hd
      have len2 : ds.length = 2 := of_decide_eq_true h2
      have ho1 := ex_l e1 ho
      refine q_when (b := !(ds.all (inD ns))) (et_not (et_B (ev_allC (j := 2) (vs := [2]) (inD ns) (it_T (tl := tVar 0) (gv e1)) (by omega) (fun _ => rfl) fun x d' H2 e2 m g => ?_))) (fun hb2 H2 e2 => ?_) (fun hb2 H2 e2 => ?_)
      · refine ev_andV (a := wordD d') (b := decide (strD d' ∈ ns)) (ev_spB (ed_var rfl g) (sm.2 d' m)) fun hw => ?_
        have e := word_is hw
        rw [e] at g
        cases g
        exact fun H3 e3 Q3 q3 => ⟨_, rfl, _, rfl, o, ns.map V.str, rfl, .inl (ex_l (e2.trans e3) ho1), rfl, flat_txts ns, by
          show Q3 (.bl (inV (.str (strD d')) (ns.map V.str))) H3
          rw [inV_txts]
          exact q3 H3 (Ex.refl _)⟩
      · refine s_retD (K := K) (ed_bl ev_c) fun u H3 e3 gu => ?_
        cases gu
        have z : pairB ns (.tuple ds) = false := by
          unfold pairB
          show ((true && two (.tuple ds)) && (ds.all (inD ns) && ordD ns (.tuple ds))) = false
          cases h1 : ds.all (inD ns)
          · rw [Bool.false_and, Bool.and_false]
          · rw [h1] at hb2
            cases hb2
        have k := kQ H3 ((e1.trans e2).trans e3)
        rw [z] at k
        exact k
      · have hall : ds.all (inD ns) = true := notF hb2
        match ds, len2, hall, g1, h2 with
        | [a, b], _, hall, g1, h2 =>
          rw [List.all_cons, List.all_cons, Bool.and_eq_true, Bool.and_eq_true] at hall
          obtain ⟨ha, hb, _⟩ := hall
          unfold inD at ha hb
          rw [Bool.and_eq_true, decide_eq_true_eq] at ha hb
          have e12 := e1.trans e2
          have ga : EvD K (tVar 0) (start ["thing", "order", "word"] [v, .ref o]) H2 (.tuple [a, b]) := ed_var rfl (Dd.ext e12 _ _ g1)
          have xa : Ev (tOp (rIxT K) (tVar 0) (tC (.int 0))) (start ["thing", "order", "word"] [v, .ref o]) H2 (.str (strD a)) := by
            have r := ed_ixT (K := K) (j := 0) ga (fun _ _ => ev_c) (show [a, b][0]? = some a from rfl)
            rw [word_is ha.1] at r
            exact r.str
          have xb : Ev (tOp (rIxT K) (tVar 0) (tC (.int 1))) (start ["thing", "order", "word"] [v, .ref o]) H2 (.str (strD b)) := by
            have r := ed_ixT (K := K) (j := 1) ga (fun _ _ => ev_c) (show [a, b][1]? = some b from rfl)
            rw [word_is hb.1] at r
            exact r.str
          refine s_retD (K := K) (ed_bl (ev_op (ev_index (ev_var rfl) (ex_l e12 ho) xa ha.2) (ev_index (ev_var rfl) (ex_l e12 ho) xb hb.2) rv_I0)) fun u H3 e3 gu => ?_
          cases gu
          have z : pairB ns (.tuple [a, b]) = decide (((ixOf (strD a) ns : Nat) : Int) < ((ixOf (strD b) ns : Nat) : Int)) := by
            unfold pairB
            show ((true && two (.tuple [a, b])) && ([a, b].all (inD ns) && decide (ixOf (strD a) ns < ixOf (strD b) ns))) = _
            have q : [a, b].all (inD ns) = true := by
              rw [List.all_cons, List.all_cons]
              unfold inD
              rw [ha.1, hb.1, decide_eq_true ha.2, decide_eq_true hb.2]
              rfl
            rw [q, h2, Bool.true_and, Bool.true_and, Bool.true_and]
            exact decide_eq_decide.mpr (by omega)
          have k := kQ H3 (e12.trans e3)
          rw [z] at k
          exact k
theorem scPairs : FnScope ["thing", "order", "pair"] ["thing", "order"] (defScope sPairs) := ⟨rfl, rfl, rfl, by decide +kernel, rfl, by decide +kernel, by decide +kernel⟩
theorem ok_pairs (F : Fun K "are_pairs" "are_pairs" sPairs f fd) (T : Txt mg) (W : Df P w K mg base "is_pair" ["thing", "order"] 2 (spPair K)) : FnOk P w K mg base CX0 3 f fd ["thing", "order"] (spPairs K) := by
  refine F.ok scPairs (fun vs H Q E h => ?_) (fun cdv A outer s H vs Q E hr h => ?_)
  · obtain ⟨v, o, d, ns, rfl, _⟩ := h
    rfl
  · obtain ⟨v, o, d, ns, rfl, g1, hd, ho, kQ⟩ := h
    have hr2 : Room 2 _ := hr.mono (by decide)
    refine ⟨_, pss_one (ps_ret (pe_and (pe_callB call_isiT (by rfl) T.isn (by decide +kernel) (pa_cons (pv 0) (pa_cons (pe_tup (pa_cons (pe_bltn (v := .ty "list") (by rfl) T.lst (by decide +kernel) rfl) (pa_cons (pe_bltn (v := .ty "tuple") (by rfl) T.tup (by decide +kernel) rfl) pa_nil))) pa_nil)))
      (pe_one (pe_callB (cr_all rfl) (by rfl) T.all (by decide +kernel) (pa_cons
        (pe_lc (own := [("pair", 2)]) (g := gName 2) (tt := tYes) (te := tCall (spPair K) [] E0 (tCons (tVar 2) (tCons (tVar 1) tNil))) rfl scPairs.nd (pi_seq (pv 0)) (blkOk_by (own := [("pair", 2)]) (N := ["thing", "order", "pair"]) (sc := defScope sPairs) (by decide +kernel))
          (fun _ _ _ _ _ => pg_name (i := 2) scPairs.nd rfl (Or.inl rfl)) (fun _ _ _ _ _ => pts_nil) (fun _ _ _ _ _ => pe_df W hr2 rfl (pa_cons (pv 2) (pa_cons (pv 1) pa_nil)))) pa_nil))))), ?_⟩
    have sm := small_seq hd
    refine s_retD (K := K) (ed_bl (z := pairsB ns d) (ev_andV (a := isSeq d) (b := (seqOf d).all (pairB ns)) (ev_isiLT (ed_var rfl g1)) fun hs => ev_allC (j := 2) (vs := [2]) (pairB ns) (it_seq (ed_var rfl g1) hs) (by omega) (fun _ => rfl) fun x d' H2 e2 m g => ?_)) fun u H1 e1 gu => ?_
    · exact fun H3 e3 Q3 q3 => ⟨_, rfl, _, rfl, x, o, d', ns, rfl, Dd.ext e3 _ _ g, sm.2 d' m, ex_l (e2.trans e3) ho, fun H4 e4 => q3 H4 e4⟩
    · cases gu
      exact kQ H1 e1
end
end K01
set_option maxHeartbeats 8000000
namespace K01
open PySem PySem.Spec PyProof.Rows L2 Evl My LamX
abbrev prs (ps : List (Str × Str)) : List PyData := ps.map fun p => .tuple [.str p.1, .str p.2]
section
variable {K : PySem.W.Frag} {σ : L2.St} {H H0 : Hp} {te tl ta tb : TE} {d : PyData} {ds : List PyData} {ns : List Str} {o : Addr} {s : Str} {v : V} {g : TG} {tz ts : TS} {D : Ends}
theorem ed_ofL (h : EvDL K te σ H ds) : EvD K te σ H (.list ds) := fun H1 e Q q => h H1 e _ fun p xs H2 _ e2 hx gx => q (.ref p) H2 e2 (.lst (sq_of hx) gx)
/-- a walk over a list or a tuple that stands, as it stood in H0 -/
theorem s_forQ (e0 : Ex H0 H) (gd : Dd K H0 v d) (hs : isSeq d = true) (h : Ev tl σ H v) (Pv : Nat → L2.St → Hp → Prop) (h0 : ∀ H1, Ex H H1 → Pv 0 σ H1) (hl : ∀ i σ' H', Pv i σ' H' → Ex H0 H')
    (step : ∀ i x di σ' H', (seqOf d)[i]? = some di → Dd K H' x di → Pv i σ' H' → g x σ' H' fun σ2 H2 => ts { D with nx := Pv (i + 1), ct := Pv (i + 1), bk := D.nx } σ2 H2)
    (done : ∀ σ' H', Pv (seqOf d).length σ' H' → D.nx σ' H') : tFor (iSeq K tl) g ts D σ H := by
  cases d with
  | list ds =>
    cases gd with
    | @lst a xs _ hx ha =>
      refine .inl (h H (Ex.refl _) _ fun H1 e1 => ⟨a, rfl, ⟨xs, ex_l (e0.trans e1) hx⟩, for_list (xs := xs) Pv (h0 H1 e1) (fun i σ' H' _ p => ex_l (hl i σ' H' p) hx) (fun i x σ' H' hi p => ?_) fun σ' H' p => done σ' H' (by rw [ha.len] at p; exact p)⟩)
      obtain ⟨di, hdi, gdi⟩ := (Dds.ext (hl i σ' H' p) _ _ ha).get hi
      exact step i x di σ' H' hdi gdi p
  | tuple ds =>
    cases gd with
    | @tup a xs _ hx ha =>
      refine .inr (h H (Ex.refl _) _ fun H1 e1 => ⟨a, rfl, ⟨xs, ex_t (e0.trans e1) hx⟩, for_tup (xs := xs) Pv (h0 H1 e1) (fun i σ' H' _ p => ex_t (hl i σ' H' p) hx) (fun i x σ' H' hi p => ?_) fun σ' H' p => done σ' H' (by rw [ha.len] at p; exact p)⟩)
      obtain ⟨di, hdi, gdi⟩ := (Dds.ext (hl i σ' H' p) _ _ ha).get hi
      exact step i x di σ' H' hdi gdi p
  | _ => cases hs
theorem q_forQ (e0 : Ex H0 H) (gd : Dd K H0 v d) (hs : isSeq d = true) (h : Ev tl σ H v) (Pv : Nat → L2.St → Hp → Prop) (h0 : ∀ H1, Ex H H1 → Pv 0 σ H1) (hl : ∀ i σ' H', Pv i σ' H' → Ex H0 H')
    (step : ∀ i x di σ' H', (seqOf d)[i]? = some di → Dd K H' x di → Pv i σ' H' → g x σ' H' fun σ2 H2 => ts { D with nx := Pv (i + 1), ct := Pv (i + 1), bk := tz D } σ2 H2)
    (done : ∀ σ' H', Pv (seqOf d).length σ' H' → tz D σ' H') : tSeq (tFor (iSeq K tl) g ts) tz D σ H :=
  s_forQ (D := { D with nx := tz D }) e0 gd hs h Pv h0 hl step done
/-- [word for word in order if test] -/
theorem edl_filt {j : Nat} {vs : List Nat} {tt : TT} (f : Str → Bool) (hx : Ev tl σ H (.ref o)) (ho : SqL K H o (ns.map V.str)) (hz : ns.length ≤ 40000) (hw : ∀ x, wipe ((wipe σ vs).set j (some x)) vs = wipe σ vs) (hj : ∀ x, ((wipe σ vs).set j (some x))[j]? = some (some x))
    (test : ∀ s H1, Ex H H1 → s ∈ ns → EvT tt ((wipe σ vs).set j (some (.str s))) H1 (f s)) : EvDL K (tLc (iList K tl) (gName j) tt (tVar j) vs) σ H (txts (ns.filter f)) := by
  have it : EvIt K (iList K tl) σ H (txts ns) := it_L hx ho (Dds.strs ns)
  have r := edl_lc (K := K) (tt := tt) (te := tVar j) (fun d => f (strD d)) (fun d => .str (strD d)) it (by rw [List.length_map]; exact hz) (fun _ _ _ => rfl) hw (fun x d H1 e m g => ?_) (fun x d H1 e m g _ => ?_)
  · have e2 : ((txts ns).filter fun d => f (strD d)).map (fun d => PyData.str (strD d)) = txts (ns.filter f) := by
      rw [txts, List.filter_map, List.map_map]
      rfl
    rw [e2] at r
    exact r
  · obtain ⟨s, hs, rfl⟩ := List.mem_map.mp m
    cases g
    exact test s H1 e hs
  · obtain ⟨s, hs, rfl⟩ := List.mem_map.mp m
    cases g
    exact ed_str (ev_var (hj _))
end
def spBelow (K : PySem.W.Frag) : Sp := fun vs H Q _ => ∃ (o : Addr) (v : V) (d : PyData) (ns : List Str) (ps : List (Str × Str)), vs = [.ref o, v] ∧ SqL K H o (ns.map V.str) ∧ NamesOk ns ∧ Dd K H v d ∧ isSeq d = true ∧ seqOf d = prs ps ∧ PairsOk ns ps ∧
  ∀ b H', Ex H H' → H b = none → DcAt H' b ns (belF ns ps ns) → Q (.ref b) H'
theorem take_next {α : Type} {ns : List α} {i : Nat} {l : α} (h : ns[i]? = some l) : ns.take (i + 1) = ns.take i ++ [l] := by
  rw [List.take_add_one, h]
  rfl
theorem nd_take {ns : List Str} (nd : ns.Nodup) {i : Nat} {l : Str} (h : ns[i]? = some l) : l ∉ ns.take i := fun m => by
  obtain ⟨j, hj⟩ := List.mem_iff_getElem?.mp m
  rw [List.getElem?_take] at hj
  split at hj
  · rename_i lt
    have e1 := ixOf_nd nd hj
    have e2 := ixOf_nd nd h
    omega
  · cases hj
theorem low_take {ns : List Str} (nd : ns.Nodup) {ps : List (Str × Str)} (P : PairsOk ns ps) {p : Str × Str} (hp : p ∈ ps) {i : Nat} (h : ns[i]? = some p.2) : p.1 ∈ ns.take i := by
  obtain ⟨a, b, ab, h1, h2⟩ := P.2 p hp
  have e1 := ixOf_nd nd h2
  have e2 := ixOf_nd nd h
  have : a < i := by omega
  refine List.mem_iff_getElem?.mpr ⟨a, ?_⟩
  rw [List.getElem?_take, if_pos this]
  exact h1
/-- what was found behind the first pairs -/
def foundJ (ns : List Str) (ps : List (Str × Str)) (bl : Str → List Str) (l : Str) (j : Nat) : List Str := [ns.headD "", l] ++ ((ps.take j).filter fun p => decide (p.2 = l)).flatMap fun p => bl p.1
theorem foundJ_yes {ns : List Str} {ps : List (Str × Str)} {bl : Str → List Str} {l : Str} {j : Nat} {p : Str × Str} (h : ps[j]? = some p) (e : p.2 = l) : foundJ ns ps bl l (j + 1) = foundJ ns ps bl l j ++ bl p.1 := by
  unfold foundJ
  rw [take_next h, List.filter_append, List.flatMap_append, List.append_assoc]
  congr 2
  rw [List.filter_cons, if_pos (decide_eq_true e)]
  simp
theorem foundJ_no {ns : List Str} {ps : List (Str × Str)} {bl : Str → List Str} {l : Str} {j : Nat} {p : Str × Str} (h : ps[j]? = some p) (e : ¬ p.2 = l) : foundJ ns ps bl l (j + 1) = foundJ ns ps bl l j := by
  unfold foundJ
  rw [take_next h, List.filter_append, List.flatMap_append]
  rw [List.filter_cons, if_neg (by rw [decide_eq_false e]; exact Bool.false_ne_true)]
  simp
theorem foundJ_all (ns : List Str) (ps : List (Str × Str)) (bl : Str → List Str) (l : Str) : foundJ ns ps bl l ps.length = foundOf ns ps bl l := by
  unfold foundJ foundOf
  rw [List.take_length]
theorem foundJ_len {ns : List Str} {ps : List (Str × Str)} {bl : Str → List Str} {l : Str} (hb : ∀ s, (bl s).length ≤ ns.length) : ∀ j, j ≤ ps.length → (foundJ ns ps bl l j).length ≤ 2 + j * ns.length
  | 0, _ => by
    unfold foundJ
    simp
  | j + 1, h => by
    have ih := foundJ_len (ns := ns) (ps := ps) (bl := bl) (l := l) hb j (by omega)
    have hp := List.getElem?_eq_getElem (show j < ps.length by omega)
    by_cases e : (ps[j]).2 = l
    · rw [foundJ_yes hp e, List.length_append, Nat.succ_mul]
      have := hb (ps[j]).1
      omega
    · rw [foundJ_no hp e, Nat.succ_mul]
      omega
theorem prs_at {ps : List (Str × Str)} {j : Nat} {d : PyData} (h : (prs ps)[j]? = some d) : ∃ p, ps[j]? = some p ∧ d = .tuple [.str p.1, .str p.2] := by
  rw [List.getElem?_map] at h
  cases hp : ps[j]? with
  | none =>
    rw [hp] at h
    cases h
  | some p =>
    rw [hp] at h
    cases h
    exact ⟨p, rfl, rfl⟩
theorem heads {ns : List Str} (h : 1 ≤ ns.length) : atI (ns.map V.str) 0 = some (.str (ns.headD "")) := by
  cases ns with
  | nil => cases h
  | cons a r => exact atI_nat (xs := (a :: r).map V.str) (j := 0) rfl
def NB : List Str := ["order", "pairs", "below", "level", "found", "low", "high", "word"]
section
variable {P : Program} {w : World} {K : PySem.W.Frag} {mg : Str → Option Value} {base : Heap} {f : Addr} {fd : FuncData}
theorem scBelow : FnScope NB ["order", "pairs"] (defScope sBelow) := ⟨rfl, rfl, rfl, by decide +kernel, rfl, by decide +kernel, by decide +kernel⟩
theorem ok_below (F : Fun K "levels_below" "levels_below" sBelow f fd) : FnOk P w K mg base CX0 1 f fd ["order", "pairs"] (spBelow K) := by
  refine F.ok scBelow (fun vs H Q E h => ?_) (fun cdv A outer s H vs Q E hr h => ?_)
  · obtain ⟨o, v, d, ns, ps, rfl, _⟩ := h
    rfl
  · obtain ⟨o, v, d, ns, ps, rfl, ho, N, gd, hsq, hps, PO, kQ⟩ := h
    have hu := hu_of hr
    refine ⟨_, pss_cons (ps_set (i := 2) scBelow.nd rfl (Or.inl rfl) pe_dnewK)
      (pss_cons (ps_for PassesOwn.never rfl (pi_list (pv 0)) (pg_name (i := 3) scBelow.nd rfl (Or.inl rfl))
        (pss_cons (ps_set (i := 4) scBelow.nd rfl (Or.inr rfl) (pe_lst (pa_cons (pe_ix ix_list (pv 0) pe_int (fun _ _ => rfl)) (pa_cons (pv 3) pa_nil))))
        (pss_cons (ps_for PassesOwn.never rfl (pi_seq (pv 1)) (pg_tup rfl (pgs_cons (pg_name (i := 5) scBelow.nd rfl (Or.inl rfl)) (pgs_cons (pg_name (i := 6) scBelow.nd rfl (Or.inl rfl)) pgs_nil)))
          (pss_one (ps_if (pt_cmpR op_eq (pv 6) (pv 3) (nomark _)) (pss_one (ps_expr (pe_bm PySem.F.plainAttrs_list PySem.F.slot_list_extend PySem.F.type_list_extend mt_extend (pv 4) (pa_cons (pe_dget hu (pv 2) (pv 5) (fun _ _ => rfl)) pa_nil)))) pss_nil)))
        (pss_one (ps_dput hu (pv 2) (pv 3) (pe_lc (own := [("word", 7)]) (g := gName 7) (tt := tTest (tOp (rIn K false) (tVar 7) (tVar 4))) (te := tVar 7) rfl scBelow.nd (pi_list (pv 0)) (blkOk_by (own := [("word", 7)]) (N := NB) (sc := defScope sBelow) (by decide +kernel))
          (fun _ _ _ _ _ => pg_name (i := 7) scBelow.nd rfl (Or.inl rfl)) (fun _ _ _ _ _ => pts_one (pt_cmpR op_in_seq (pv 7) (pv 4) rfl)) (fun _ _ _ _ _ => pv 7)) rfl)))))
      (pss_one (ps_ret (pv 2)))), ?_⟩
    have hlen : ns.length ≤ 8 := N.eight
    -- the dict
    refine fun b nb => ?_
    have e1 : Ex H (upd H b (.dK [])) := Ex.new nb
    refine q_forLn (xs := ns.map V.str) (ev_var rfl) (ex_l e1 ho)
      (fun i σ' H' => (∃ x3 x4 x5 x6 x7 : Option V, σ' = [some (.ref o), some v, some (.ref b), x3, x4, x5, x6, x7]) ∧ But b (upd H b (.dK [])) H' ∧ ∃ ka, H' b = some (.dK ka) ∧ KvL H' ka (ns.take i) (belF ns ps (ns.take i))) ?_ ?_ ?_ ?_
    · intro H1 ex
      exact ⟨⟨_, _, _, _, _, rfl⟩, But.ofEx ex, [], ex _ _ upd_same, .nil⟩
    · rintro i σ' H' _ ⟨_, but, _⟩
      exact ex_l (but.of e1 nb) ho
    · rintro i x σ' H' hx ⟨⟨x3, x4, x5, x6, x7, rfl⟩, but, ka, hka, kv⟩
      have eH : Ex H H' := but.of e1 nb
      rw [List.getElem?_map] at hx
      obtain ⟨l, hl, rfl⟩ : ∃ l, ns[i]? = some l ∧ V.str l = x := by
        cases hq : ns[i]? with
        | none =>
          rw [hq] at hx
          cases hx
        | some l =>
          rw [hq] at hx
          exact ⟨l, rfl, Option.some.inj hx⟩
      have hbl : ∀ s, (belF ns ps (ns.take i) s).length ≤ ns.length := belF_len ns ps _
      generalize hbe : belF ns ps (ns.take i) = bl at kv hbl
      refine q_asgL (el_lst (ea_cons (ev_op (ev_var rfl) ev_c (rv_ixL (ex_l eH ho) (heads N.one))) (ea_cons (ev_var rfl) ea_nil)) (by simp)) fun fp H3 nfp e3 hfp => ?_
      refine q_forQ (K := K) (d := d) (Ex.trans eH e3) gd hsq (ev_var rfl)
        (fun j σ' H'' => (∃ y5 y6 y7 : Option V, σ' = [some (.ref o), some v, some (.ref b), some (.str l), some (.ref fp), y5, y6, y7]) ∧ But fp H3 H'' ∧ H'' fp = some (.lst ((foundJ ns ps bl l j).map V.str))) ?_ ?_ ?_ ?_
      · intro H4 e4
        refine ⟨⟨_, _, _, rfl⟩, But.ofEx e4, ?_⟩
        rw [e4 _ _ hfp]
        rfl
      · rintro j σ' H'' ⟨_, but2, _⟩
        exact eH.trans (but2.of e3 nfp)
      · rintro j x di σ' H'' hd gdi ⟨⟨y5, y6, y7, rfl⟩, but2, hf⟩
        have e13 : Ex H' H'' := but2.of e3 nfp
        rw [hps] at hd
        obtain ⟨p, hp, rfl⟩ := prs_at hd
        have hpm : p ∈ ps := List.mem_of_getElem? hp
        have hj : j < ps.length := (List.getElem?_eq_some_iff.mp hp).1
        cases gdi with
        | @tup t xs _ ht ha =>
          cases ha with
          | cons g1 t1 =>
            cases t1 with
            | cons g2 t2 =>
              cases t2
              cases g1
              cases g2
              refine ⟨t, _, rfl, ht, rfl, _, _, rfl, _, _, rfl, rfl, ?_⟩
              refine s_when (b := decide (p.2 = l)) (et_is (et_test (ev_op (ev_var rfl) (ev_var rfl) (rv_eq rfl))) ?_) (fun hb H5 e5 => ?_) (fun hb H5 e5 => ?_)
              · exact decide_eq_decide.mpr ⟨fun z => V.str.inj z, fun z => by rw [z]⟩
              · have pl : p.2 = l := of_decide_eq_true hb
                have low : p.1 ∈ ns.take i := low_take N.nd PO hpm (by rw [pl]; exact hl)
                obtain ⟨u, hu1, au, rfl, hau⟩ := (kv.ext (e13.trans e5)).some low
                have hbk : H5 b = some (.dK ka) := e5 _ _ (e13 _ _ hka)
                refine ⟨_, rfl, .inl ⟨rfl, _, sq_of (e5 _ _ hf)⟩, _, rfl, _, rfl, b, _, rfl, by rw [← hu1]; exact DGet.k (k := .inr p.1) hbk, fp, au, _, _, rfl, rfl, e5 _ _ hf, hau, ?_, ⟨_, _, _, rfl⟩, But.upd (but2.ex e5), ?_⟩
                · rw [List.length_map, List.length_map]
                  have z1 := foundJ_len (ns := ns) (ps := ps) (bl := bl) (l := l) hbl j (Nat.le_of_lt hj)
                  have z2 := hbl p.1
                  have z3 : j * ns.length ≤ 10 * 8 := Nat.mul_le_mul (by have := PO.1; omega) hlen
                  exact sz_of (by omega)
                · rw [upd_same, foundJ_yes hp pl, List.map_append]
              · refine ⟨⟨_, _, _, rfl⟩, but2.ex e5, ?_⟩
                rw [foundJ_no hp (of_decide_eq_false hb)]
                exact e5 _ _ hf
      · rintro σ' H4 ⟨⟨y5, y6, y7, rfl⟩, but2, hf⟩
        rw [hps, List.length_map, foundJ_all] at hf
        have e14 : Ex H' H4 := but2.of e3 nfp
        refine (edl_filt (K := K) (j := 7) (vs := [7]) (fun s => decide (s ∈ foundOf ns ps bl l)) (ev_var rfl) (ex_l (eH.trans e14) ho) (by omega) (fun _ => rfl) (fun _ => rfl) (fun s H5 e5 _ => ?_)) H4 (Ex.refl _) _ fun q xs H5 nq e5 hq gq => ?_
        · exact et_test (ev_inL (K := K) (ev_var rfl) (ed_var rfl (.lst (sq_of (e5 _ _ hf)) (Dds.strs _))))
        · rw [Dds.txts gq] at hq
          have hb5 : H5 b = some (.dK ka) := e5 _ _ (e14 _ _ hka)
          have kv5 := kv.ext (e14.trans e5)
          have nin := nd_take N.nd hl
          refine ⟨_, rfl, _, rfl, b, _, rfl, DPut.k (k := .inr l) hb5 (by rw [kv5.len, List.length_take]; exact Nat.lt_of_le_of_lt (Nat.min_le_left _ _) (sz_lt (by have := (List.getElem?_eq_some_iff.mp hl).1; omega))), ⟨_, _, _, _, _, rfl⟩, ?_, _, upd_same, ?_⟩
          · exact But.upd fun a u na h => e5 a u (e14 a u (but a u na h))
          · rw [take_next hl, belF_snoc, hbe]
            refine KvL.but (p := b) (H := H5) ((But.refl b H5).upd) (fun ys z => by rw [hb5] at z; cases z) (kv5.snoc nin ⟨q, rfl, hq⟩)
    · rintro σ' H' ⟨⟨x3, x4, x5, x6, x7, rfl⟩, but, ka, hka, kv⟩
      rw [List.length_map, List.take_length] at kv
      exact s_ret (v := .ref b) (ev_var rfl) fun H2 e2 => kQ b H2 ((but.of e1 nb).trans e2) nb ⟨ka, e2 _ _ hka, kv.ext e2⟩
end
end K01
set_option maxHeartbeats 8000000
namespace K01
open PySem PySem.Spec PyProof.Rows L2 Evl My LamX
/-! own errors -/
structure InvE (P : Program) (w : World) (K : PySem.W.Frag) (mg : Str → Option Value) (base : Heap) (nm : Str) (C : Addr) : Prop where
  ex : ∃ (fI : Addr) (fd : FuncData), OexC K C ∧ PySem.W.findIn K (.ref C) "__init__" = some (some (.ref fI)) ∧ PySem.W.typeIn K (.ref fI) = some (.type "function") ∧ FnOk P w K mg base CX0 1 fI fd ["self", "value"] (spOne C "value") ∧ Binds K fd ["self", "value"] []
  g : mg nm = some (.ref C)
theorem pmk_invE {X : Cx} {C : Addr} {nm : Str} {e : Expr} {te : TE} {p pos : Pos} (V : InvE X.prog X.w X.K X.mg X.base nm C) (hr : Room 2 X.A) (hg : Gl X nm) (he : PE X e te) (hn : (nm == ("__debug__" : Str)) = false := by decide) (hs : starEach [e] X.env = (false, eval e X.env) :: starEach [] X.env := by rfl) :
    PMk X (.Call (.Name nm p) [e] [] pos) (tMkO C (spOne C "value") [] (tCons te tNil)) := by
  obtain ⟨fI, fd, T, iC, tI, F, b⟩ := V.ex
  refine pmk_oex T iC tI F hr b .nil passN hg V.g (pa_cons he pa_nil hs) hn hs ?_
  rfl
section
variable {σ : L2.St} {H : Hp} {te : TE} {C : Addr} {f : Str} {v : V}
theorem mkO1 {Q : XK} (h : Ev te σ H v) (k : ∀ d H', Ex H H' → H' d = some (.xd [(f, v)]) → Q (.ref C) (some d) H') : tMkO C (spOne C f) [] (tCons te tNil) σ H Q :=
  h H (Ex.refl H) _ fun H2 e2 => ⟨(by decide : 1 ≤ 1000), fun a ha => ⟨a, v, rfl, upd_same, fun dx n ne => ⟨rfl, dx, [(f, v)], by rw [upd_ne (Ne.symm ne), upd_same], upd_same, by rw [upd_ne ne] at n; exact n,
    k dx _ (fun b o hb => by
      rw [upd_ne ne] at n
      have hb2 := e2 b o hb
      have n1 : b ≠ dx := ne_of_none hb2 n
      have n2 : b ≠ a := ne_of_none hb2 ha
      rw [upd_ne n1, del_ne n2, upd_ne n1, upd_ne n2, upd_ne n2]
      exact hb2) upd_same⟩⟩⟩
end
/-! instances of Levels -/
structure LvOk (ns : List Str) (bl : Str → List Str) : Prop where
  N : NamesOk ns
  eight : ∀ s, (bl s).length ≤ 8
  sub : ∀ s, ∀ w ∈ bl s, w ∈ ns
def LvAt (C : Addr) (H : Hp) (L : Addr) (ns : List Str) (bl : Str → List Str) : Prop := ∃ dx o b, H L = some (.ins C dx [("order", .ref o), ("below", .ref b)]) ∧ H o = some (.lst (ns.map V.str)) ∧ DcAt H b ns bl
def hasD (ns : List Str) (d : PyData) : Bool := isStr d && decide (strD d ∈ ns)
/-- what the class's facts are -/
structure LvC (K : PySem.W.Frag) (C : Addr) : Prop where
  cl : Cls K C
  no : NoAttr K C "order"
  nb : NoAttr K C "below"
structure MD (P : Program) (w : World) (K : PySem.W.Frag) (mg : Str → Option Value) (base : Heap) (C : Addr) (m : Str) (ps : List Str) (k : Nat) (sp : Sp) : Prop where
  ex : ∃ (f : Addr) (fd : FuncData), Meth K C m f ∧ FnOk P w K mg base CX0 k f fd ps sp ∧ Binds K fd ps []
structure MX (P : Program) (w : World) (K : PySem.W.Frag) (mg : Str → Option Value) (base : Heap) (C : Addr) (m : Str) (ps : List Str) (k : Nat) (sp : Sp) : Prop where
  ex : ∃ (f : Addr) (fd : FuncData), Meth K C m f ∧ FnOk P w K mg base (L2.CX P w) k f fd ps sp ∧ Binds K fd ps []
section
variable {X : Cx} {C : Addr} {m : Str} {ps : List Str} {k : Nat} {sp : Sp} {o e : Expr} {es : List Expr} {apos pos : Pos} {ta : TE} {t : TA} {E : XK} {pl : Sem Bool}
theorem pe_md (D : MD X.prog X.w X.K X.mg X.base C m ps k sp) (c : Cls X.K C) (hr : Room k X.A) (he : PE X o ta) (ha : PA X (e :: es) t)
    (hst : starEach (e :: es) X.env = (false, eval e X.env) :: starEach es X.env := by rfl) (hpl : (backTo pos (starEach es X.env)).any (·.1) = false := by rfl)
    (ht : eval (.Call (.Attribute o m apos) (e :: es) [] pos) X.env = (do
      let ov ← eval o X.env
      standAt apos.atName
      let (f, first) ← holding [ov] (getMethod ov m pl)
      callWith pos f first (backTo pos (starEach (e :: es) X.env)) (backToKw pos (keywordEach [] X.env))) := by rfl) :
    PE X (.Call (.Attribute o m apos) (e :: es) [] pos) (tMeth C m sp [] E0 ta t) := by
  obtain ⟨f, fd, hm, F, b⟩ := D.ex
  exact pe_meth he c hm F hr b .nil (fun _ _ _ _ _ _ _ h => h.elim) ha hst hpl ht
theorem pe_md0 (D : MD X.prog X.w X.K X.mg X.base C m ps k sp) (c : Cls X.K C) (hr : Room k X.A) (he : PE X o ta)
    (ht : eval (.Call (.Attribute o m apos) [] [] pos) X.env = (do
      let ov ← eval o X.env
      standAt apos.atName
      let (f, first) ← holding [ov] (getMethod ov m pl)
      callWith pos f first (backTo pos (starEach [] X.env)) (backToKw pos (keywordEach [] X.env))) := by rfl) :
    PE X (.Call (.Attribute o m apos) [] [] pos) (tMeth C m sp [] E0 ta tNil) := by
  obtain ⟨f, fd, hm, F, b⟩ := D.ex
  exact pe_meth0 he c hm F hr b .nil (fun _ _ _ _ _ _ _ h => h.elim) ht
theorem pe_mx (D : MX X.prog X.w X.K X.mg X.base C m ps k sp) (c : Cls X.K C) (hr : Room k X.A) (hx : Passes (L2.CX X.prog X.w) X E) (he : PE X o ta) (ha : PA X (e :: es) t)
    (hst : starEach (e :: es) X.env = (false, eval e X.env) :: starEach es X.env := by rfl) (hpl : (backTo pos (starEach es X.env)).any (·.1) = false := by rfl)
    (ht : eval (.Call (.Attribute o m apos) (e :: es) [] pos) X.env = (do
      let ov ← eval o X.env
      standAt apos.atName
      let (f, first) ← holding [ov] (getMethod ov m pl)
      callWith pos f first (backTo pos (starEach (e :: es) X.env)) (backToKw pos (keywordEach [] X.env))) := by rfl) :
    PE X (.Call (.Attribute o m apos) (e :: es) [] pos) (tMeth C m sp [] E ta t) := by
  obtain ⟨f, fd, hm, F, b⟩ := D.ex
  exact pe_meth he c hm F hr b .nil hx ha hst hpl ht
end
section
variable {K : PySem.W.Frag} {C L D : Addr} {σ : L2.St} {H : Hp} {ns : List Str} {bl : Str → List Str} {i : Nat} {te ta : TE}
theorem LvAt.ext {H' : Hp} (e : Ex H H') (h : LvAt C H L ns bl) : LvAt C H' L ns bl := by
  obtain ⟨dx, o, b, h1, h2, h3⟩ := h
  exact ⟨dx, o, b, e _ _ h1, e _ _ h2, h3.ext e⟩
theorem LvAt.extN {H' : Hp} (e : ExtN H H') (h : LvAt C H L ns bl) : LvAt C H' L ns bl := by
  obtain ⟨dx, o, b, h1, h2, h3⟩ := h
  exact ⟨dx, o, b, e _ _ h1 (fun _ z => nomatch z), e _ _ h2 (fun _ z => nomatch z), h3.extN e⟩
/-- x.order -/
theorem ed_order (c : LvC K C) (h : LvAt C H L ns bl) (ha : Ev ta σ H (.ref L)) : EvD K (tFld K ta "order") σ H (.list (txts ns)) := fun H1 e Q q => ha H1 e _ fun H2 e2 => by
  obtain ⟨dx, o, b, h1, h2, h3⟩ := h.ext (e.trans e2)
  exact ⟨L, C, dx, _, .ref o, rfl, h1, c.cl, c.no, rfl, q _ H2 e2 (.lst (sq_of h2) (Dds.strs _))⟩
/-- x.below[s] -/
theorem ed_below (c : LvC K C) (h : LvAt C H L ns bl) (ha : Ev ta σ H (.ref L)) {s : Str} (hs : s ∈ ns) (hy : Ev te σ H (.str s)) : EvD K (tDGet (tFld K ta "below") te) σ H (.list (txts (bl s))) := fun H1 e Q q => ha H1 e _ fun H2 e2 => by
  obtain ⟨dx, o, b, h1, h2, h3⟩ := h.ext (e.trans e2)
  refine ⟨L, C, dx, _, .ref b, rfl, h1, c.cl, c.nb, rfl, ?_⟩
  refine hy H2 (e.trans e2) _ fun H3 e3 => ?_
  obtain ⟨ka, k1, k2⟩ := h3.ext e3
  obtain ⟨v, k3, g⟩ := k2.some hs
  exact ⟨b, v, rfl, by rw [← k3]; exact DGet.k (k := .inr s) k1, q v H3 (e2.trans e3) g.dd⟩
/-- s in x.below -/
theorem ev_inBelow (c : LvC K C) (h : LvAt C H L ns bl) (ha : Ev ta σ H (.ref L)) {s : Str} (hy : Ev te σ H (.str s)) : Ev (tDIn te (tFld K ta "below")) σ H (.bl (decide (s ∈ ns))) := fun H1 e Q q =>
  hy H1 e _ fun H2 e2 => ha H2 (e.trans e2) _ fun H3 e3 => by
    obtain ⟨dx, o, b, h1, h2, h3⟩ := h.ext ((e.trans e2).trans e3)
    exact ⟨L, C, dx, _, .ref b, rfl, h1, c.cl, c.nb, rfl, (ev_din (σ := σ) (ty := tC (.str s)) (td := tC (.ref b)) ev_c ev_c h3) H3 (Ex.refl _) Q fun H4 e4 => q H4 ((e2.trans e3).trans e4)⟩
end
/-- the way out with an error that keeps d -/
def Raises (K : PySem.W.Frag) (D : Addr) (H : Hp) (d : PyData) (E : XK) : Prop := ∀ dd v' H', Ex H H' → H' dd = some (.xd [("value", v')]) → Dd K H' v' d → E (.ref D) (some dd) H'
def sp0 (K : PySem.W.Frag) (C : Addr) (F : List Str → (Str → List Str) → PyData) : Sp := fun vs H Q _ => ∃ (L : Addr) (ns : List Str) (bl : Str → List Str), vs = [.ref L] ∧ LvAt C H L ns bl ∧ LvOk ns bl ∧ ∀ u H', Ex H H' → Dd K H' u (F ns bl) → Q u H'
def spHas (K : PySem.W.Frag) (C : Addr) : Sp := fun vs H Q _ => ∃ (L : Addr) (v : V) (d : PyData) (ns : List Str) (bl : Str → List Str), vs = [.ref L, v] ∧ LvAt C H L ns bl ∧ LvOk ns bl ∧ Dd K H v d ∧ ∀ H', Ex H H' → Q (.bl (hasD ns d)) H'
def sp1 (K : PySem.W.Frag) (C D : Addr) (F : List Str → (Str → List Str) → Str → PyData) : Sp := fun vs H Q E => ∃ (L : Addr) (v : V) (d : PyData) (ns : List Str) (bl : Str → List Str), vs = [.ref L, v] ∧ LvAt C H L ns bl ∧ LvOk ns bl ∧ Dd K H v d ∧
  (hasD ns d = true → ∀ u H', Ex H H' → Dd K H' u (F ns bl (strD d)) → Q u H') ∧ (hasD ns d = false → Raises K D H d E)
def sp2 (K : PySem.W.Frag) (C D : Addr) (F : List Str → (Str → List Str) → Str → Str → PyData) : Sp := fun vs H Q E => ∃ (L : Addr) (v1 v2 : V) (d1 d2 : PyData) (ns : List Str) (bl : Str → List Str), vs = [.ref L, v1, v2] ∧ LvAt C H L ns bl ∧ LvOk ns bl ∧ Dd K H v1 d1 ∧ Dd K H v2 d2 ∧
  (hasD ns d1 = true → hasD ns d2 = true → ∀ u H', Ex H H' → Dd K H' u (F ns bl (strD d1) (strD d2)) → Q u H') ∧ (hasD ns d1 = false → Raises K D H d1 E) ∧ (hasD ns d1 = true → hasD ns d2 = false → Raises K D H d2 E)
end K01
set_option maxHeartbeats 8000000
namespace K01
open PySem PySem.Spec PyProof.Rows L2 Evl My LamX
abbrev sCls : Stmt := top 13
def clsBody : List Stmt := match top 13 with
  | .ClassDef _ _ _ body .. => body
  | _ => []
def mth (i : Nat) : Stmt := clsBody.getD i (.Pass ⟨0, 0, 0, 0⟩)
abbrev mInit : Stmt := mth 0
abbrev mLeast : Stmt := mth 1
abbrev mNames : Stmt := mth 2
abbrev mLen : Stmt := mth 3
abbrev mEq : Stmt := mth 4
abbrev mHas : Stmt := mth 5
abbrev mCheck : Stmt := mth 6
abbrev mLeq : Stmt := mth 7
abbrev mAbove : Stmt := mth 8
abbrev mDowns : Stmt := mth 9
abbrev mUps : Stmt := mth 10
abbrev mMeet : Stmt := mth 11
abbrev mJoin : Stmt := mth 12
section
variable {K : PySem.W.Frag} {C L D : Addr} {σ : L2.St} {H : Hp} {ns : List Str} {bl : Str → List Str} {te ta tl : TE} {d : PyData} {ds : List PyData} {Q : VK} {E : XK} {v : V} {i j : Nat} {De : Ends} {tz : TS}
/-- list(e) of a list -/
theorem ed_listL (h : EvD K te σ H (.list ds)) : EvD K (tCB (fun xs H Q => ∃ p ys, xs = [.ref p] ∧ (SqL K H p ys ∨ SqT K H p ys) ∧ ∀ l, H l = none → Q (.ref l) (upd H l (.lst ys))) (tCons te tNil)) σ H (.list ds) := fun H1 e Q q =>
  h H1 e _ fun v H2 e2 g => by
    cases g with
    | @lst a xs _ hx ha => exact ⟨a, xs, rfl, .inl hx, fun l hl => q (.ref l) _ (e2.trans (Ex.new hl)) (.lst (sq_of upd_same) (Dds.ext (Ex.new hl) _ _ ha))⟩
end
section
variable {P : Program} {w : World} {K : PySem.W.Frag} {mg : Str → Option Value} {base : Heap} {f C D : Addr} {fd : FuncData}
theorem scHas : FnScope ["self", "thing"] ["self", "thing"] (defScope mHas) := ⟨rfl, rfl, rfl, by decide +kernel, rfl, by decide +kernel, by decide +kernel⟩
theorem ok_has (F : Fun K "has" "Levels.has" mHas f fd) (T : Txt mg) (c : LvC K C) : FnOk P w K mg base CX0 1 f fd ["self", "thing"] (spHas K C) := by
  refine F.ok scHas (fun vs H Q E h => ?_) (fun cdv A outer s H vs Q E hr h => ?_)
  · obtain ⟨L, v, d, ns, bl, rfl, _⟩ := h
    rfl
  · obtain ⟨L, v, d, ns, bl, rfl, lv, ok, g, kQ⟩ := h
    have hu := hu_of hr
    refine ⟨_, pss_one (ps_ret (pe_and (pe_callB call_isi (by rfl) T.isn (by decide +kernel) (pa_cons (pv 1) (pa_cons (pe_bltn (v := .ty "str") (by rfl) T.str (by decide +kernel) rfl) pa_nil))) (pe_one (pe_cmp (pc_din hu (pv 1) (pe_fld (pv 0) rfl)) rfl)))), ?_⟩
    refine s_ret (v := .bl (hasD ns d)) (ev_andV (a := isStr d) (b := decide (strD d ∈ ns)) (ed_isi (ed_var rfl g) (isStr_kit d)) fun hs => ?_) fun H1 e1 => kQ H1 e1
    obtain ⟨s, rfl⟩ := isStr_is hs
    cases g
    exact ev_inBelow c lv (ev_var rfl) (ev_var rfl)
theorem scCheck : FnScope ["self", "level"] ["self", "level"] (defScope mCheck) := ⟨rfl, rfl, rfl, by decide +kernel, rfl, by decide +kernel, by decide +kernel⟩
theorem ok_check (F : Fun K "check" "Levels.check" mCheck f fd) (c : LvC K C) (V : InvE P w K mg base "InvalidLevel" D) (hH : MD P w K mg base C "has" ["self", "thing"] 1 (spHas K C)) : FnOk P w K mg base (L2.CX P w) 3 f fd ["self", "level"] (sp1 K C D fun _ _ _ => .none) := by
  refine F.okX scCheck (fun vs H Q E h => ?_) (fun cdv A outer s H vs Q E hr h => ?_)
  · obtain ⟨L, v, d, ns, bl, rfl, _⟩ := h
    rfl
  · obtain ⟨L, v, d, ns, bl, rfl, lv, ok, g, kQ, kE⟩ := h
    have hr1 : Room 1 _ := hr.mono (by decide)
    refine ⟨_, pss_one (ps_if (pt_not (pt_val (pe_md hH c.cl hr1 (pv 0) (pa_cons (pv 1) pa_nil)))) (pss_one (ps_raise rfl (takes_of rfl rfl rfl rfl) (pmk_invE V hr rfl (pv 1)))) pss_nil), ?_⟩
    have has : EvT (tNot (tB (tMeth C "has" (spHas K C) [] E0 (tVar 0) (tCons (tVar 1) tNil)))) (start ["self", "level"] [.ref L, v]) H (!hasD ns d) := et_not (et_B fun H1 e Q q => by
      obtain ⟨dx, o, b, h1, _⟩ := lv.ext e
      exact ⟨_, rfl, L, dx, _, rfl, h1, rfl, _, rfl, L, v, d, ns, bl, rfl, lv.ext e, ok, Dd.ext e _ _ g, fun H2 e2 => q H2 e2⟩)
    refine s_when has (fun hb H1 e1 => ?_) (fun hb H1 e1 => ?_)
    · have hf : hasD ns d = false := by
        cases h : hasD ns d
        · rfl
        · rw [h] at hb
          cases hb
      exact mkO1 (ev_var rfl) fun dd H2 e2 hdd => kE hf dd _ H2 (e1.trans e2) hdd (Dd.ext (e1.trans e2) _ _ g)
    · exact kQ (notF hb) .non H1 e1 .non
theorem scNam : FnScope ["self"] ["self"] (defScope mNames) := ⟨rfl, rfl, rfl, by decide +kernel, rfl, by decide +kernel, by decide +kernel⟩
theorem ok_nam (F : Fun K "names" "Levels.names" mNames f fd) (T : Txt mg) (c : LvC K C) : FnOk P w K mg base CX0 1 f fd ["self"] (sp0 K C fun ns _ => .list (txts ns)) := by
  refine F.ok scNam (fun vs H Q E h => ?_) (fun cdv A outer s H vs Q E hr h => ?_)
  · obtain ⟨L, ns, bl, rfl, _⟩ := h
    rfl
  · obtain ⟨L, ns, bl, rfl, lv, ok, kQ⟩ := h
    refine ⟨_, pss_one (ps_ret (pe_callTy call_list_of (by rfl) T.lst (by decide +kernel) (pa_cons (pe_fld (pv 0) rfl) pa_nil))), ?_⟩
    exact s_retD (ed_listL (ed_order c lv (ev_var rfl))) fun u H1 e1 gu => kQ u H1 e1 gu
theorem scLen : FnScope ["self"] ["self"] (defScope mLen) := ⟨rfl, rfl, rfl, by decide +kernel, rfl, by decide +kernel, by decide +kernel⟩
theorem ok_len (F : Fun K "__len__" "Levels.__len__" mLen f fd) (T : Txt mg) (c : LvC K C) : FnOk P w K mg base CX0 1 f fd ["self"] (sp0 K C fun ns _ => .int (ns.length : Nat)) := by
  refine F.ok scLen (fun vs H Q E h => ?_) (fun cdv A outer s H vs Q E hr h => ?_)
  · obtain ⟨L, ns, bl, rfl, _⟩ := h
    rfl
  · obtain ⟨L, ns, bl, rfl, lv, ok, kQ⟩ := h
    refine ⟨_, pss_one (ps_ret (pe_callB call_len (by rfl) T.len (by decide +kernel) (pa_cons (pe_fld (pv 0) rfl) pa_nil))), ?_⟩
    refine s_retD (ed_int (ev_is (ed_lenQ (ed_order c lv (ev_var rfl)) rfl) (by rw [show seqOf (.list (txts ns)) = txts ns from rfl, List.length_map]))) fun u H1 e1 gu => kQ u H1 e1 gu
theorem scLeast : FnScope ["self"] ["self"] (defScope mLeast) := ⟨rfl, rfl, rfl, by decide +kernel, rfl, by decide +kernel, by decide +kernel⟩
theorem ok_least (F : Fun K "least" "Levels.least" mLeast f fd) (c : LvC K C) : FnOk P w K mg base CX0 1 f fd ["self"] (sp0 K C fun ns _ => .str (ns.headD "")) := by
  refine F.ok scLeast (fun vs H Q E h => ?_) (fun cdv A outer s H vs Q E hr h => ?_)
  · obtain ⟨L, ns, bl, rfl, _⟩ := h
    rfl
  · obtain ⟨L, ns, bl, rfl, lv, ok, kQ⟩ := h
    refine ⟨_, pss_one (ps_ret (pe_ix ix_list (pe_fld (pv 0) rfl) pe_int (fun _ _ => rfl))), ?_⟩
    have x : Ev (tOp (rIxL K) (tFld K (tVar 0) "order") (tC (.int 0))) (start ["self"] [.ref L]) H (.str (ns.headD "")) := fun H1 e Q q => by
      obtain ⟨dx, o, b, h1, h2, h3⟩ := lv.ext e
      exact ⟨_, rfl, L, C, dx, _, .ref o, rfl, h1, c.cl, c.no, rfl, o, _, 0, _, rfl, rfl, sq_of h2, heads ok.N.one, q H1 (Ex.refl _)⟩
    exact s_retD (ed_str x) fun u H1 e1 gu => kQ u H1 e1 gu
end
end K01
set_option maxHeartbeats 8000000
namespace K01
open PySem PySem.Spec PyProof.Rows L2 Evl My LamX
theorem ownPass {P : Program} {w : World} {K : PySem.W.Frag} {mg : Str → Option Value} {base : Heap} {N : List Str} {qual : Str} {sc : Scope} {f : Addr} {cdv : Value} {A : Around} {outer : List Env} {s : Shared} {H : Hp} {E : XK} :
    Passes (L2.CX (cxOf (L2.CX P w) P w K mg base N qual sc f cdv A outer s H E).prog (cxOf (L2.CX P w) P w K mg base N qual sc f cdv A outer s H E).w) (cxOf (L2.CX P w) P w K mg base N qual sc f cdv A outer s H E) E :=
  L2.passes_call (L2.takes_of rfl rfl rfl rfl) fun _ _ _ _ h => h
def firstOf (f : Str → Bool) (ws : List Str) : PyData := match ws.find? f with
  | some s => .str s
  | none => .none
theorem firstOf_at {f : Str → Bool} : ∀ {ws : List Str} {i : Nat} {x : Str}, ws[i]? = some x → f x = true → (∀ y ∈ ws.take i, f y = false) → firstOf f ws = .str x
  | [], i, x, h, _, _ => by simp at h
  | w :: ws, 0, x, h, hf, _ => by
    cases h
    unfold firstOf
    rw [List.find?_cons, hf]
  | w :: ws, i + 1, x, h, hf, no => by
    have ih := firstOf_at (ws := ws) (i := i) (x := x) h hf fun y m => no y (by rw [List.take_succ_cons]; exact List.mem_cons_of_mem _ m)
    unfold firstOf at ih ⊢
    rw [List.find?_cons, no w (by rw [List.take_succ_cons]; exact List.mem_cons_self ..)]
    exact ih
theorem firstOf_no {f : Str → Bool} {ws : List Str} (no : ∀ y ∈ ws, f y = false) : firstOf f ws = .none := by
  unfold firstOf
  rw [List.find?_eq_none.mpr fun y m => by rw [no y m]; exact Bool.false_ne_true]
def bothOf (ns : List Str) (bl : Str → List Str) (a b : Str) : List Str := ns.filter fun w => decide (w ∈ bl a) && decide (w ∈ bl b)
def moreOf (ns : List Str) (bl : Str → List Str) (a b : Str) : List Str := ns.filter fun w => decide (a ∈ bl w) && decide (b ∈ bl w)
def meetF (ns : List Str) (bl : Str → List Str) (a b : Str) : PyData := firstOf (fun l => (bothOf ns bl a b).all fun w => decide (w ∈ bl l)) (bothOf ns bl a b)
def joinF (ns : List Str) (bl : Str → List Str) (a b : Str) : PyData := firstOf (fun l => (moreOf ns bl a b).all fun w => decide (l ∈ bl w)) (moreOf ns bl a b)
theorem hasD_is {ns : List Str} {d : PyData} (h : hasD ns d = true) : d = .str (strD d) ∧ strD d ∈ ns := by
  unfold hasD at h
  rw [Bool.and_eq_true, decide_eq_true_eq] at h
  obtain ⟨s, rfl⟩ := isStr_is h.1
  exact ⟨rfl, h.2⟩
section
variable {K : PySem.W.Frag} {C L D o : Addr} {σ : L2.St} {H : Hp} {ns ws : List Str} {bl : Str → List Str} {te ta tl : TE} {d : PyData} {v : V} {i j : Nat} {De : Ends} {tz : TS} {E : XK} {F : List Str → (Str → List Str) → Str → PyData}
/-- self.check(x) -/
theorem q_check (h0 : σ[i]? = some (some (.ref L))) (hj : σ[j]? = some (some v)) (lv : LvAt C H L ns bl) (ok : LvOk ns bl) (g : Dd K H v d) (yes : hasD ns d = true → ∀ H1, Ex H H1 → tz De σ H1) (no : hasD ns d = false → Raises K D H d E) :
    tSeq (tDrop (tMeth C "check" (sp1 K C D fun _ _ _ => .none) [] E (tVar i) (tCons (tVar j) tNil))) tz De σ H := by
  obtain ⟨dx, o, b, h1, h2, h3⟩ := id lv
  exact ⟨_, h0, L, dx, _, rfl, h1, rfl, _, hj, L, v, d, ns, bl, rfl, lv, ok, g, fun hs u H1 e1 _ => yes hs H1 e1, no⟩
theorem ev_orderR (c : LvC K C) (lv : LvAt C H L ns bl) (ha : Ev ta σ H (.ref L)) : ∃ o, SqL K H o (ns.map V.str) ∧ Ev (tFld K ta "order") σ H (.ref o) := by
  obtain ⟨dx, o, b, h1, h2, h3⟩ := lv
  exact ⟨o, sq_of h2, fun H1 e Q q => ha H1 e _ fun H2 e2 => ⟨L, C, dx, _, .ref o, rfl, (e.trans e2) _ _ h1, c.cl, c.no, rfl, q H2 e2⟩⟩
end
section
variable {P : Program} {w : World} {K : PySem.W.Frag} {mg : Str → Option Value} {base : Heap} {f C D : Addr} {fd : FuncData}
theorem scDowns : FnScope ["self", "level"] ["self", "level"] (defScope mDowns) := ⟨rfl, rfl, rfl, by decide +kernel, rfl, by decide +kernel, by decide +kernel⟩
theorem ok_downs (F : Fun K "downs" "Levels.downs" mDowns f fd) (T : Txt mg) (c : LvC K C) (hC : MX P w K mg base C "check" ["self", "level"] 3 (sp1 K C D fun _ _ _ => .none)) : FnOk P w K mg base (L2.CX P w) 4 f fd ["self", "level"] (sp1 K C D fun _ bl a => .list (txts (bl a))) := by
  refine F.okX scDowns (fun vs H Q E h => ?_) (fun cdv A outer s H vs Q E hr h => ?_)
  · obtain ⟨L, v, d, ns, bl, rfl, _⟩ := h
    rfl
  · obtain ⟨L, v, d, ns, bl, rfl, lv, ok, g, kQ, kE⟩ := h
    have hu := hu_of hr
    refine ⟨_, pss_cons (ps_expr (pe_mx hC c.cl hr ownPass (pv 0) (pa_cons (pv 1) pa_nil))) (pss_one (ps_ret (pe_callTy call_list_of (by rfl) T.lst (by decide +kernel) (pa_cons (pe_dget hu (pe_fld (pv 0) rfl) (pv 1) (fun _ _ => rfl)) pa_nil)))), ?_⟩
    refine q_check rfl rfl lv ok g (fun hs H1 e1 => ?_) kE
    obtain ⟨e, hm⟩ := hasD_is hs
    have g1 := Dd.ext e1 _ _ g
    rw [e] at g1
    cases g1
    exact s_retD (ed_listL (ed_below c (lv.ext e1) (ev_var rfl) hm (ev_var rfl))) fun u H2 e2 gu => kQ hs u H2 (e1.trans e2) gu
theorem scUps : FnScope ["self", "level", "word"] ["self", "level"] (defScope mUps) := ⟨rfl, rfl, rfl, by decide +kernel, rfl, by decide +kernel, by decide +kernel⟩
theorem ok_ups (F : Fun K "ups" "Levels.ups" mUps f fd) (c : LvC K C) (hC : MX P w K mg base C "check" ["self", "level"] 3 (sp1 K C D fun _ _ _ => .none)) : FnOk P w K mg base (L2.CX P w) 4 f fd ["self", "level"] (sp1 K C D fun ns bl a => .list (txts (ns.filter fun w => decide (a ∈ bl w)))) := by
  refine F.okX scUps (fun vs H Q E h => ?_) (fun cdv A outer s H vs Q E hr h => ?_)
  · obtain ⟨L, v, d, ns, bl, rfl, _⟩ := h
    rfl
  · obtain ⟨L, v, d, ns, bl, rfl, lv, ok, g, kQ, kE⟩ := h
    have hu := hu_of hr
    refine ⟨_, pss_cons (ps_expr (pe_mx hC c.cl hr ownPass (pv 0) (pa_cons (pv 1) pa_nil)))
      (pss_one (ps_ret (pe_lc (own := [("word", 2)]) (g := gName 2) (tt := tTest (tOp (rIn K false) (tVar 1) (tDGet (tFld K (tVar 0) "below") (tVar 2)))) (te := tVar 2) rfl scUps.nd (pi_list (pe_fld (pv 0) rfl)) (blkOk_by (own := [("word", 2)]) (N := ["self", "level", "word"]) (sc := defScope mUps) (by decide +kernel))
          (fun _ _ _ _ _ => pg_name (i := 2) scUps.nd rfl (Or.inl rfl)) (fun _ _ _ _ _ => pts_one (pt_cmpR op_in_seq (pv 1) (pe_dget hu (pe_fld (pv 0) rfl) (pv 2) (fun _ _ => rfl)) rfl)) (fun _ _ _ _ _ => pv 2)))), ?_⟩
    refine q_check rfl rfl lv ok g (fun hs H1 e1 => ?_) kE
    obtain ⟨e, hm⟩ := hasD_is hs
    have g1 := Dd.ext e1 _ _ g
    rw [e] at g1
    cases g1
    have lv1 := lv.ext e1
    obtain ⟨o, ho, eo⟩ := ev_orderR (σ := start ["self", "level", "word"] [.ref L, .str (strD d)]) c lv1 (ta := tVar 0) (ev_var rfl)
    refine s_retD (K := K) (ed_ofL (edl_filt (K := K) (j := 2) (vs := [2]) (fun w => decide (strD d ∈ bl w)) eo ho (by have := ok.N.eight; omega) (fun _ => rfl) (fun _ => rfl) fun s H2 e2 m => ?_)) fun u H2 e2 gu => kQ hs u H2 (e1.trans e2) gu
    exact et_test (ev_inL (ev_var rfl) (ed_below c (lv1.ext e2) (ev_var rfl) m (ev_var rfl)))
theorem scLeq : FnScope ["self", "one", "other"] ["self", "one", "other"] (defScope mLeq) := ⟨rfl, rfl, rfl, by decide +kernel, rfl, by decide +kernel, by decide +kernel⟩
theorem ok_leq (F : Fun K "leq" "Levels.leq" mLeq f fd) (c : LvC K C) (hC : MX P w K mg base C "check" ["self", "level"] 3 (sp1 K C D fun _ _ _ => .none)) : FnOk P w K mg base (L2.CX P w) 4 f fd ["self", "one", "other"] (sp2 K C D fun _ bl a b => .bool (decide (a ∈ bl b))) := by
  refine F.okX scLeq (fun vs H Q E h => ?_) (fun cdv A outer s H vs Q E hr h => ?_)
  · obtain ⟨L, v1, v2, d1, d2, ns, bl, rfl, _⟩ := h
    rfl
  · obtain ⟨L, v1, v2, d1, d2, ns, bl, rfl, lv, ok, g1, g2, kQ, kE1, kE2⟩ := h
    have hu := hu_of hr
    refine ⟨_, pss_cons (ps_expr (pe_mx hC c.cl hr ownPass (pv 0) (pa_cons (pv 1) pa_nil))) (pss_cons (ps_expr (pe_mx hC c.cl hr ownPass (pv 0) (pa_cons (pv 2) pa_nil))) (pss_one (ps_ret (pe_cmpR op_in_seq (pv 1) (pe_dget hu (pe_fld (pv 0) rfl) (pv 2) (fun _ _ => rfl)) rfl)))), ?_⟩
    refine q_check rfl rfl lv ok g1 (fun hs1 H1 e1 => ?_) kE1
    refine q_check rfl rfl (lv.ext e1) ok (Dd.ext e1 _ _ g2) (fun hs2 H2 e2 => ?_) (fun no dd v' H' e' hx gx => kE2 hs1 no dd v' H' (e1.trans e') hx gx)
    obtain ⟨q1, hm1⟩ := hasD_is hs1
    obtain ⟨q2, hm2⟩ := hasD_is hs2
    have e12 := e1.trans e2
    rw [q1] at g1
    rw [q2] at g2
    cases g1
    cases g2
    exact s_retD (K := K) (ed_bl (ev_inL (ev_var rfl) (ed_below c (lv.ext e12) (ev_var rfl) hm2 (ev_var rfl)))) fun u H3 e3 gu => kQ hs1 hs2 u H3 (e12.trans e3) gu
theorem scAbove : FnScope ["self", "one", "other"] ["self", "one", "other"] (defScope mAbove) := ⟨rfl, rfl, rfl, by decide +kernel, rfl, by decide +kernel, by decide +kernel⟩
theorem ok_above (F : Fun K "above" "Levels.above" mAbove f fd) (c : LvC K C) (hC : MX P w K mg base C "check" ["self", "level"] 3 (sp1 K C D fun _ _ _ => .none)) : FnOk P w K mg base (L2.CX P w) 4 f fd ["self", "one", "other"] (sp2 K C D fun _ bl a b => .bool (!decide (a = b) && decide (b ∈ bl a))) := by
  refine F.okX scAbove (fun vs H Q E h => ?_) (fun cdv A outer s H vs Q E hr h => ?_)
  · obtain ⟨L, v1, v2, d1, d2, ns, bl, rfl, _⟩ := h
    rfl
  · obtain ⟨L, v1, v2, d1, d2, ns, bl, rfl, lv, ok, g1, g2, kQ, kE1, kE2⟩ := h
    have hu := hu_of hr
    refine ⟨_, pss_cons (ps_expr (pe_mx hC c.cl hr ownPass (pv 0) (pa_cons (pv 1) pa_nil))) (pss_cons (ps_expr (pe_mx hC c.cl hr ownPass (pv 0) (pa_cons (pv 2) pa_nil))) (pss_one (ps_ret (pe_and (pe_cmpR op_ne (pv 1) (pv 2) (nomark _)) (pe_one (pe_cmpR op_in_seq (pv 2) (pe_dget hu (pe_fld (pv 0) rfl) (pv 1) (fun _ _ => rfl)) rfl)))))), ?_⟩
    refine q_check rfl rfl lv ok g1 (fun hs1 H1 e1 => ?_) kE1
    refine q_check rfl rfl (lv.ext e1) ok (Dd.ext e1 _ _ g2) (fun hs2 H2 e2 => ?_) (fun no dd v' H' e' hx gx => kE2 hs1 no dd v' H' (e1.trans e') hx gx)
    obtain ⟨q1, hm1⟩ := hasD_is hs1
    obtain ⟨q2, hm2⟩ := hasD_is hs2
    have e12 := e1.trans e2
    rw [q1] at g1
    rw [q2] at g2
    cases g1
    cases g2
    refine s_retD (K := K) (ed_bl (ev_andV (a := !decide (strD d1 = strD d2)) (b := decide (strD d2 ∈ bl (strD d1))) (ev_is (ev_op (ev_var rfl) (ev_var rfl) (rv_ne rfl)) ?_) fun _ => ev_inL (ev_var rfl) (ed_below c (lv.ext e12) (ev_var rfl) hm1 (ev_var rfl)))) fun u H3 e3 gu => kQ hs1 hs2 u H3 (e12.trans e3) gu
    congr 2
    exact decide_eq_decide.mpr ⟨fun z => V.str.inj z, fun z => by rw [z]⟩
end
end K01
set_option maxHeartbeats 8000000
namespace K01
open PySem PySem.Spec PyProof.Rows L2 Evl My LamX
def NM : List Str := ["self", "one", "other", "common", "level", "word"]
theorem filter_len {ns : List Str} (f : Str → Bool) : (ns.filter f).length ≤ ns.length := List.length_filter_le _ _
section
variable {P : Program} {w : World} {K : PySem.W.Frag} {mg : Str → Option Value} {base : Heap} {f C D : Addr} {fd : FuncData}
theorem scMeet : FnScope NM ["self", "one", "other"] (defScope mMeet) := ⟨rfl, rfl, rfl, by decide +kernel, rfl, by decide +kernel, by decide +kernel⟩
theorem ok_meet (F : Fun K "meet" "Levels.meet" mMeet f fd) (T : Txt mg) (c : LvC K C) (hC : MX P w K mg base C "check" ["self", "level"] 3 (sp1 K C D fun _ _ _ => .none)) : FnOk P w K mg base (L2.CX P w) 4 f fd ["self", "one", "other"] (sp2 K C D meetF) := by
  refine F.okX scMeet (fun vs H Q E h => ?_) (fun cdv A outer s H vs Q E hr h => ?_)
  · obtain ⟨L, v1, v2, d1, d2, ns, bl, rfl, _⟩ := h
    rfl
  · obtain ⟨L, v1, v2, d1, d2, ns, bl, rfl, lv, ok, g1, g2, kQ, kE1, kE2⟩ := h
    have hu := hu_of hr
    refine ⟨_, pss_cons (ps_expr (pe_mx hC c.cl hr ownPass (pv 0) (pa_cons (pv 1) pa_nil))) (pss_cons (ps_expr (pe_mx hC c.cl hr ownPass (pv 0) (pa_cons (pv 2) pa_nil)))
      (PSs.nox (pss_cons (ps_setLc (i := 3) (own := [("word", 5)]) (g := gName 5) (tt := tAnd (tTest (tOp (rIn K false) (tVar 5) (tDGet (tFld K (tVar 0) "below") (tVar 1)))) (tTest (tOp (rIn K false) (tVar 5) (tDGet (tFld K (tVar 0) "below") (tVar 2))))) (te := tVar 5) rfl scMeet.nd rfl rfl (sw_true rfl rfl rfl (by decide +kernel)) (pi_list (pe_fld (pv 0) rfl)) (blkOk_by (own := [("word", 5)]) (N := NM) (sc := defScope mMeet) (by decide +kernel))
          (fun _ _ _ _ _ => pg_name (i := 5) scMeet.nd rfl (Or.inl rfl)) (fun _ _ _ _ _ => pts_one (PW.pt (pw_and (pt_cmpR op_in_seq (pv 5) (pe_dget hu (pe_fld (pv 0) rfl) (pv 1) (fun _ _ => rfl)) rfl) (pw_and1 (pt_cmpR op_in_seq (pv 5) (pe_dget hu (pe_fld (pv 0) rfl) (pv 2) (fun _ _ => rfl)) rfl))))) (fun _ _ _ _ _ => pv 5))
      (pss_cons (ps_for PassesOwn.never rfl (pi_list (pv 3)) (pg_name (i := 4) scMeet.nd rfl (Or.inr rfl))
          (pss_one (ps_if (pt_val (pe_callB (cr_all rfl) (by rfl) T.all (by decide +kernel) (pa_cons
            (pe_lc (own := [("word", 5)]) (g := gName 5) (tt := tYes) (te := tOp (rIn K false) (tVar 5) (tDGet (tFld K (tVar 0) "below") (tVar 4))) rfl scMeet.nd (pi_list (pv 3)) (blkOk_by (own := [("word", 5)]) (N := NM) (sc := defScope mMeet) (by decide +kernel))
              (fun _ _ _ _ _ => pg_name (i := 5) scMeet.nd rfl (Or.inl rfl)) (fun _ _ _ _ _ => pts_nil) (fun _ _ _ _ _ => pe_cmpR op_in_seq (pv 5) (pe_dget hu (pe_fld (pv 0) rfl) (pv 4) (fun _ _ => rfl)) rfl)) pa_nil))) (pss_one (ps_ret (pv 4))) pss_nil)))
      (pss_one (ps_ret pe_non)))))), ?_⟩
    refine q_check rfl rfl lv ok g1 (fun hs1 H1 e1 => ?_) kE1
    refine q_check rfl rfl (lv.ext e1) ok (Dd.ext e1 _ _ g2) (fun hs2 H2 e2 => ?_) (fun no dd v' H' e' hx gx => kE2 hs1 no dd v' H' (e1.trans e') hx gx)
    obtain ⟨q1, hm1⟩ := hasD_is hs1
    obtain ⟨q2, hm2⟩ := hasD_is hs2
    have e12 := e1.trans e2
    rw [q1] at g1
    rw [q2] at g2
    cases g1
    cases g2
    have lv2 := lv.ext e12
    have n8 := ok.N.eight
    obtain ⟨o, ho, eo⟩ := ev_orderR (σ := start NM [.ref L, .str (strD d1), .str (strD d2)]) c lv2 (ta := tVar 0) (ev_var rfl)
    refine q_asgDL (K := K) (edl_filt (K := K) (j := 5) (vs := [5]) (fun w => decide (w ∈ bl (strD d1)) && decide (w ∈ bl (strD d2))) eo ho (by omega) (fun _ => rfl) (fun _ => rfl) fun s H3 e3 m => ?_) fun p xs H3 np e3 hp gp => ?_
    · exact et_and (a := decide (s ∈ bl (strD d1))) (b := decide (s ∈ bl (strD d2))) (et_test (ev_inL (ev_var rfl) (ed_below c (lv2.ext e3) (ev_var rfl) hm1 (ev_var rfl)))) fun _ => et_test (ev_inL (ev_var rfl) (ed_below c (lv2.ext e3) (ev_var rfl) hm2 (ev_var rfl)))
    · generalize hcm : ns.filter (fun w => decide (w ∈ bl (strD d1)) && decide (w ∈ bl (strD d2))) = cm at gp
      have cl : cm.length ≤ 8 := by
        rw [← hcm]
        exact Nat.le_trans (filter_len _) n8
      have cn : ∀ x ∈ cm, x ∈ ns := fun x m => by
        rw [← hcm] at m
        exact (List.mem_filter.mp m).1
      have xe := Dds.txts gp
      subst xe
      have e13 := e12.trans e3
      have res : meetF ns bl (strD d1) (strD d2) = firstOf (fun l => cm.all fun w => decide (w ∈ bl l)) cm := by
        unfold meetF bothOf
        rw [← hcm]
      refine q_forLn (xs := cm.map V.str) (ev_var rfl) (sq_of hp)
        (fun i σ' H' => (∃ x4 x5 : Option V, σ' = [some (.ref L), some (.str (strD d1)), some (.str (strD d2)), some (.ref p), x4, x5]) ∧ Ex H3 H' ∧ ∀ y ∈ cm.take i, (cm.all fun w => decide (w ∈ bl y)) = false) ?_ ?_ ?_ ?_
      · exact fun H4 e4 => ⟨⟨_, _, rfl⟩, e4, fun y m => nomatch m⟩
      · rintro i σ' H' _ ⟨_, e4, _⟩
        exact ex_l e4 (sq_of hp)
      · rintro i x σ' H4 hx ⟨⟨x4, x5, rfl⟩, e4, no⟩
        rw [List.getElem?_map] at hx
        obtain ⟨l, hl, rfl⟩ : ∃ l, cm[i]? = some l ∧ V.str l = x := by
          cases hq : cm[i]? with
          | none =>
            rw [hq] at hx
            cases hx
          | some l =>
            rw [hq] at hx
            exact ⟨l, rfl, Option.some.inj hx⟩
        have hlm : l ∈ cm := List.mem_of_getElem? hl
        have lv4 := lv2.ext (e3.trans e4)
        have all : Ev (tCB (rAll K) (tCons (tLc (iList K (tVar 3)) (gName 5) tYes (tOp (rIn K false) (tVar 5) (tDGet (tFld K (tVar 0) "below") (tVar 4))) [5]) tNil)) ([some (.ref L), some (.str (strD d1)), some (.str (strD d2)), some (.ref p), some (.str l), x5] : L2.St) H4 (.bl ((txts cm).all fun d => decide (strD d ∈ bl l))) :=
          ev_allC (j := 5) (vs := [5]) (fun d => decide (strD d ∈ bl l)) (it_L (ev_var rfl) (ex_l e4 (sq_of hp)) (Dds.ext e4 _ _ gp)) (by rw [List.length_map]; omega) (fun _ => rfl) fun x d' H5 e5 m g => by
            obtain ⟨s, hs, rfl⟩ := List.mem_map.mp m
            cases g
            exact ev_inL (ev_var rfl) (ed_below c (lv4.ext e5) (ev_var rfl) (cn l hlm) (ev_var rfl))
        refine s_when (b := cm.all fun w => decide (w ∈ bl l)) (et_is (et_B all) ?_) (fun hb H5 e5 => ?_) (fun hb H5 e5 => ?_)
        · rw [txts, List.all_map]
          rfl
        · refine s_ret (v := .str l) (ev_var rfl) fun H6 e6 => kQ hs1 hs2 _ H6 (((e13.trans e4).trans e5).trans e6) ?_
          rw [res, firstOf_at hl hb no]
          exact .str l
        · refine ⟨⟨_, _, rfl⟩, e4.trans e5, fun y m => ?_⟩
          rw [take_next hl] at m
          rcases List.mem_append.mp m with m | m
          · exact no y m
          · rw [List.mem_singleton.mp m]
            exact hb
      · rintro σ' H4 ⟨⟨x4, x5, rfl⟩, e4, no⟩
        rw [List.length_map, List.take_length] at no
        refine s_ret (v := .non) ev_c fun H5 e5 => kQ hs1 hs2 _ H5 ((e13.trans e4).trans e5) ?_
        rw [res, firstOf_no no]
        exact .non
theorem scJoin : FnScope NM ["self", "one", "other"] (defScope mJoin) := ⟨rfl, rfl, rfl, by decide +kernel, rfl, by decide +kernel, by decide +kernel⟩
theorem ok_join (F : Fun K "join" "Levels.join" mJoin f fd) (T : Txt mg) (c : LvC K C) (hC : MX P w K mg base C "check" ["self", "level"] 3 (sp1 K C D fun _ _ _ => .none)) : FnOk P w K mg base (L2.CX P w) 4 f fd ["self", "one", "other"] (sp2 K C D joinF) := by
  refine F.okX scJoin (fun vs H Q E h => ?_) (fun cdv A outer s H vs Q E hr h => ?_)
  · obtain ⟨L, v1, v2, d1, d2, ns, bl, rfl, _⟩ := h
    rfl
  · obtain ⟨L, v1, v2, d1, d2, ns, bl, rfl, lv, ok, g1, g2, kQ, kE1, kE2⟩ := h
    have hu := hu_of hr
    refine ⟨_, pss_cons (ps_expr (pe_mx hC c.cl hr ownPass (pv 0) (pa_cons (pv 1) pa_nil))) (pss_cons (ps_expr (pe_mx hC c.cl hr ownPass (pv 0) (pa_cons (pv 2) pa_nil)))
      (PSs.nox (pss_cons (ps_setLc (i := 3) (own := [("word", 5)]) (g := gName 5) (tt := tAnd (tTest (tOp (rIn K false) (tVar 1) (tDGet (tFld K (tVar 0) "below") (tVar 5)))) (tTest (tOp (rIn K false) (tVar 2) (tDGet (tFld K (tVar 0) "below") (tVar 5))))) (te := tVar 5) rfl scJoin.nd rfl rfl (sw_true rfl rfl rfl (by decide +kernel)) (pi_list (pe_fld (pv 0) rfl)) (blkOk_by (own := [("word", 5)]) (N := NM) (sc := defScope mJoin) (by decide +kernel))
          (fun _ _ _ _ _ => pg_name (i := 5) scJoin.nd rfl (Or.inl rfl)) (fun _ _ _ _ _ => pts_one (PW.pt (pw_and (pt_cmpR op_in_seq (pv 1) (pe_dget hu (pe_fld (pv 0) rfl) (pv 5) (fun _ _ => rfl)) rfl) (pw_and1 (pt_cmpR op_in_seq (pv 2) (pe_dget hu (pe_fld (pv 0) rfl) (pv 5) (fun _ _ => rfl)) rfl))))) (fun _ _ _ _ _ => pv 5))
      (pss_cons (ps_for PassesOwn.never rfl (pi_list (pv 3)) (pg_name (i := 4) scJoin.nd rfl (Or.inr rfl))
          (pss_one (ps_if (pt_val (pe_callB (cr_all rfl) (by rfl) T.all (by decide +kernel) (pa_cons
            (pe_lc (own := [("word", 5)]) (g := gName 5) (tt := tYes) (te := tOp (rIn K false) (tVar 4) (tDGet (tFld K (tVar 0) "below") (tVar 5))) rfl scJoin.nd (pi_list (pv 3)) (blkOk_by (own := [("word", 5)]) (N := NM) (sc := defScope mJoin) (by decide +kernel))
              (fun _ _ _ _ _ => pg_name (i := 5) scJoin.nd rfl (Or.inl rfl)) (fun _ _ _ _ _ => pts_nil) (fun _ _ _ _ _ => pe_cmpR op_in_seq (pv 4) (pe_dget hu (pe_fld (pv 0) rfl) (pv 5) (fun _ _ => rfl)) rfl)) pa_nil))) (pss_one (ps_ret (pv 4))) pss_nil)))
      (pss_one (ps_ret pe_non)))))), ?_⟩
    refine q_check rfl rfl lv ok g1 (fun hs1 H1 e1 => ?_) kE1
    refine q_check rfl rfl (lv.ext e1) ok (Dd.ext e1 _ _ g2) (fun hs2 H2 e2 => ?_) (fun no dd v' H' e' hx gx => kE2 hs1 no dd v' H' (e1.trans e') hx gx)
    obtain ⟨q1, hm1⟩ := hasD_is hs1
    obtain ⟨q2, hm2⟩ := hasD_is hs2
    have e12 := e1.trans e2
    rw [q1] at g1
    rw [q2] at g2
    cases g1
    cases g2
    have lv2 := lv.ext e12
    have n8 := ok.N.eight
    obtain ⟨o, ho, eo⟩ := ev_orderR (σ := start NM [.ref L, .str (strD d1), .str (strD d2)]) c lv2 (ta := tVar 0) (ev_var rfl)
    refine q_asgDL (K := K) (edl_filt (K := K) (j := 5) (vs := [5]) (fun w => decide (strD d1 ∈ bl w) && decide (strD d2 ∈ bl w)) eo ho (by omega) (fun _ => rfl) (fun _ => rfl) fun s H3 e3 m => ?_) fun p xs H3 np e3 hp gp => ?_
    · exact et_and (a := decide (strD d1 ∈ bl s)) (b := decide (strD d2 ∈ bl s)) (et_test (ev_inL (ev_var rfl) (ed_below c (lv2.ext e3) (ev_var rfl) m (ev_var rfl)))) fun _ => et_test (ev_inL (ev_var rfl) (ed_below c (lv2.ext e3) (ev_var rfl) m (ev_var rfl)))
    · generalize hcm : ns.filter (fun w => decide (strD d1 ∈ bl w) && decide (strD d2 ∈ bl w)) = cm at gp
      have cl : cm.length ≤ 8 := by
        rw [← hcm]
        exact Nat.le_trans (filter_len _) n8
      have cn : ∀ x ∈ cm, x ∈ ns := fun x m => by
        rw [← hcm] at m
        exact (List.mem_filter.mp m).1
      have xe := Dds.txts gp
      subst xe
      have e13 := e12.trans e3
      have res : joinF ns bl (strD d1) (strD d2) = firstOf (fun l => cm.all fun w => decide (l ∈ bl w)) cm := by
        unfold joinF moreOf
        rw [← hcm]
      refine q_forLn (xs := cm.map V.str) (ev_var rfl) (sq_of hp)
        (fun i σ' H' => (∃ x4 x5 : Option V, σ' = [some (.ref L), some (.str (strD d1)), some (.str (strD d2)), some (.ref p), x4, x5]) ∧ Ex H3 H' ∧ ∀ y ∈ cm.take i, (cm.all fun w => decide (y ∈ bl w)) = false) ?_ ?_ ?_ ?_
      · exact fun H4 e4 => ⟨⟨_, _, rfl⟩, e4, fun y m => nomatch m⟩
      · rintro i σ' H' _ ⟨_, e4, _⟩
        exact ex_l e4 (sq_of hp)
      · rintro i x σ' H4 hx ⟨⟨x4, x5, rfl⟩, e4, no⟩
        rw [List.getElem?_map] at hx
        obtain ⟨l, hl, rfl⟩ : ∃ l, cm[i]? = some l ∧ V.str l = x := by
          cases hq : cm[i]? with
          | none =>
            rw [hq] at hx
            cases hx
          | some l =>
            rw [hq] at hx
            exact ⟨l, rfl, Option.some.inj hx⟩
        have hlm : l ∈ cm := List.mem_of_getElem? hl
        have lv4 := lv2.ext (e3.trans e4)
        have all : Ev (tCB (rAll K) (tCons (tLc (iList K (tVar 3)) (gName 5) tYes (tOp (rIn K false) (tVar 4) (tDGet (tFld K (tVar 0) "below") (tVar 5))) [5]) tNil)) ([some (.ref L), some (.str (strD d1)), some (.str (strD d2)), some (.ref p), some (.str l), x5] : L2.St) H4 (.bl ((txts cm).all fun d => decide (l ∈ bl (strD d)))) :=
          ev_allC (j := 5) (vs := [5]) (fun d => decide (l ∈ bl (strD d))) (it_L (ev_var rfl) (ex_l e4 (sq_of hp)) (Dds.ext e4 _ _ gp)) (by rw [List.length_map]; omega) (fun _ => rfl) fun x d' H5 e5 m g => by
            obtain ⟨s, hs, rfl⟩ := List.mem_map.mp m
            cases g
            exact ev_inL (ev_var rfl) (ed_below c (lv4.ext e5) (ev_var rfl) (cn s hs) (ev_var rfl))
        refine s_when (b := cm.all fun w => decide (l ∈ bl w)) (et_is (et_B all) ?_) (fun hb H5 e5 => ?_) (fun hb H5 e5 => ?_)
        · rw [txts, List.all_map]
          rfl
        · refine s_ret (v := .str l) (ev_var rfl) fun H6 e6 => kQ hs1 hs2 _ H6 (((e13.trans e4).trans e5).trans e6) ?_
          rw [res, firstOf_at hl hb no]
          exact .str l
        · refine ⟨⟨_, _, rfl⟩, e4.trans e5, fun y m => ?_⟩
          rw [take_next hl] at m
          rcases List.mem_append.mp m with m | m
          · exact no y m
          · rw [List.mem_singleton.mp m]
            exact hb
      · rintro σ' H4 ⟨⟨x4, x5, rfl⟩, e4, no⟩
        rw [List.length_map, List.take_length] at no
        refine s_ret (v := .non) ev_c fun H5 e5 => kQ hs1 hs2 _ H5 ((e13.trans e4).trans e5) ?_
        rw [res, firstOf_no no]
        exact .non
end
end K01
set_option maxHeartbeats 8000000
namespace K01
open PySem PySem.Spec PyProof.Rows L2 Evl My LamX
/-- what isinstance asks of the class -/
structure LvI (K : PySem.W.Frag) (C : Addr) : Prop where
  ha : PySem.W.findIn K (.ref C) "__class__" = some (some (.builtin "object.__class__"))
  hn : PySem.W.specialIn K (.builtin "object.__class__") "__get__" = some (some (.builtin "getset_descriptor.__get__"))
  htk : PySem.W.takesIn K (.builtin "object.__class__") = some true
  hm : PySem.W.mroIn K C (.type "object") = some true
  kC : PySem.W.kitOne K (.ref C) (.ref C) = some true
  kT : ∀ d : PyData, PySem.W.kitOne K (.type (tyD d)) (.ref C) = some false
  nT : ∀ d : PyData, PySem.W.notFirst K C (.type (tyD d)) = true
def sameL (ns : List Str) (bl : Str → List Str) (ns2 : List Str) (bl2 : Str → List Str) : Bool := decide (ns = ns2) && ns.all fun s => decide (bl s = bl2 s)
def spEqL (K : PySem.W.Frag) (C : Addr) : Sp := fun vs H Q _ => ∃ (L : Addr) (y : V) (ns : List Str) (bl : Str → List Str), vs = [.ref L, y] ∧ LvAt C H L ns bl ∧ LvOk ns bl ∧
  ((∃ (L2 : Addr) (ns2 : List Str) (bl2 : Str → List Str), y = .ref L2 ∧ LvAt C H L2 ns2 bl2 ∧ LvOk ns2 bl2 ∧ ∀ H', Ex H H' → Q (.bl (sameL ns bl ns2 bl2)) H') ∨ (∃ d, Dd K H y d ∧ ∀ H', Ex H H' → Q (.bl false) H'))
theorem noDict_txts : ∀ ws : List Str, noDicts (txts ws) = true
  | [] => rfl
  | w :: ws => by
    show (noDict (.str w) && noDicts (txts ws)) = true
    rw [noDict_txts ws]
    rfl
theorem lay_txts : ∀ {ws : List Str}, (∀ s ∈ ws, wordD (.str s) = true) → PyData.canLayAll0 (txts ws) = true
  | [], _ => rfl
  | w :: ws, h => by
    show (PyData.strOk w && PyData.canLayAll0 (txts ws)) = true
    rw [lay_txts fun s m => h s (List.mem_cons_of_mem _ m), low_ok (low_of (h w (List.mem_cons_self ..)))]
    rfl
theorem dep_txts : ∀ ws : List Str, PyData.depthAll (txts ws) = 0
  | [] => rfl
  | w :: ws => by
    show max (PyData.depth (.str w)) (PyData.depthAll (txts ws)) = 0
    rw [dep_txts ws]
    rfl
theorem layL {ws : List Str} (h : ∀ s ∈ ws, wordD (.str s) = true) : (PyData.list (txts ws)).canLay0 = true ∧ (PyData.list (txts ws)).depth ≤ 1 := ⟨lay_txts h, by
  show PyData.depthAll (txts ws) + 1 ≤ 1
  rw [dep_txts]
  exact Nat.le_refl 1⟩
theorem shapedL {ws : List Str} (h : ∀ s ∈ ws, wordD (.str s) = true) : SeqAt.shaped (.list (txts ws)) = true := by
  obtain ⟨h1, h2⟩ := layL h
  unfold SeqAt.shaped
  rw [h1, decide_eq_true (Nat.le_trans h2 (by decide))]
  rfl
section
variable {K : PySem.W.Frag} {C L : Addr} {σ : L2.St} {H : Hp} {ns ns2 ws vs : List Str} {bl bl2 : Str → List Str} {te ta tb : TE} {d e : PyData} {ds : List PyData}
theorem ed_eqD (ha : EvD K ta σ H d) (hb : EvD K tb σ H e) (n1 : noDict d = true) (n2 : noDict e = true) (s1 : SeqAt.shaped d = true) (s2 : SeqAt.shaped e = true) : Ev (tOp (rEqD K) ta tb) σ H (.bl (PyData.eqv d e)) := fun H1 x Q q =>
  ha H1 x _ fun v H2 e2 g => hb H2 (x.trans e2) _ fun u H3 e3 g2 => ⟨d, e, dp_ofL _ _ n1 (Dd.ext e3 _ _ g), dp_ofL _ _ n2 g2, s1, s2, q H3 (e2.trans e3)⟩
theorem ed_neD (ha : EvD K ta σ H d) (hb : EvD K tb σ H e) (n1 : noDict d = true) (n2 : noDict e = true) (s1 : SeqAt.shaped d = true) (s2 : SeqAt.shaped e = true) : Ev (tOp (rNeD K) ta tb) σ H (.bl (!PyData.eqv d e)) := fun H1 x Q q =>
  ha H1 x _ fun v H2 e2 g => hb H2 (x.trans e2) _ fun u H3 e3 g2 => ⟨d, e, dp_ofL _ _ n1 (Dd.ext e3 _ _ g), dp_ofL _ _ n2 g2, s1, s2, q H3 (e2.trans e3)⟩
/-- two dicts with the same keys -/
theorem kv_mem2 {ka : List (Key × V)} {ks : List Str} (h : KvL H ka ks bl) {p : Key × V} (m : p ∈ ka) : ∃ s ∈ ks, p.1 = .inr s ∧ LsAt H p.2 (bl s) := by
  unfold KvL at h
  induction h with
  | nil => cases m
  | @cons q t _ _ z _ ih =>
    rcases List.mem_cons.mp m with rfl | m
    · exact ⟨t, List.mem_cons_self .., z⟩
    · obtain ⟨s, h1, h2⟩ := ih m
      exact ⟨s, List.mem_cons_of_mem _ h1, h2⟩
theorem kv_all {ka : List (Key × V)} {ks : List Str} (h : KvL H ka ks bl) (f : Key → Bool) : (ka.all fun p => f p.1) = ks.all fun s => f (.inr s) := by
  unfold KvL at h
  induction h with
  | nil => rfl
  | cons z _ ih => rw [List.all_cons, List.all_cons, ih, z.1]
def eKey (bl bl2 : Str → List Str) : Key → Bool
  | .inr s => decide (bl s = bl2 s)
  | .inl _ => true
theorem ev_eqDc {a b : Addr} (N : ∀ s ∈ ns, (∀ w ∈ bl s, wordD (.str w) = true) ∧ ∀ w ∈ bl2 s, wordD (.str w) = true) (ha : Ev ta σ H (.ref a)) (h1 : DcAt H a ns bl) (hb : Ev tb σ H (.ref b)) (h2 : DcAt H b ns bl2) :
    Ev (tOp (rEqDK K) ta tb) σ H (.bl (ns.all fun s => decide (bl s = bl2 s))) := fun H1 x Q q => ha H1 x _ fun H2 e2 => hb H2 (x.trans e2) _ fun H3 e3 => by
  obtain ⟨ka, a1, a2⟩ := h1.ext ((x.trans e2).trans e3)
  obtain ⟨kb, b1, b2⟩ := h2.ext ((x.trans e2).trans e3)
  refine ⟨a, b, ka, kb, eKey bl bl2, rfl, rfl, a1, b1, fun p m v' hv => ?_, ?_⟩
  · obtain ⟨s, hs, e1, l1⟩ := kv_mem2 a2 m
    rw [e1] at hv
    obtain ⟨v2, hv2, l2⟩ := b2.some hs
    rw [hv] at hv2
    cases hv2
    obtain ⟨n1, n2⟩ := N s hs
    refine ⟨.list (txts (bl s)), .list (txts (bl2 s)), dp_ofL (.list (txts (bl s))) _ (noDict_txts (bl s)) l1.dd, dp_ofL (.list (txts (bl2 s))) _ (noDict_txts (bl2 s)) l2.dd, (layL n1).1, (layL n2).1, Nat.le_trans (layL n1).2 (by decide), ?_⟩
    rw [e1, eqv_txts]
    rfl
  · have z : (ka.length == kb.length && ka.all fun p => (valV kb p.1).isSome && eKey bl bl2 p.1) = ns.all fun s => decide (bl s = bl2 s) := by
      rw [a2.len, b2.len, beq_self_eq_true, Bool.true_and, kv_all a2 fun k => (valV kb k).isSome && eKey bl bl2 k]
      rw [Bool.eq_iff_iff, List.all_eq_true, List.all_eq_true]
      refine forall_congr' fun s => imp_congr_right fun hs => ?_
      obtain ⟨v, hv, _⟩ := b2.some hs
      rw [hv]
      rfl
    rw [z]
    exact q H3 (e2.trans e3)
theorem ev_belowR (c : LvC K C) (lv : LvAt C H L ns bl) (ha : Ev ta σ H (.ref L)) : ∃ b, DcAt H b ns bl ∧ Ev (tFld K ta "below") σ H (.ref b) := by
  obtain ⟨dx, o, b, h1, h2, h3⟩ := lv
  exact ⟨b, h3, fun H1 e Q q => ha H1 e _ fun H2 e2 => ⟨L, C, dx, _, .ref b, rfl, (e.trans e2) _ _ h1, c.cl, c.nb, rfl, q H2 e2⟩⟩
/-- isinstance(x, Levels) -/
theorem ev_isLv (c : LvC K C) (I : LvI K C) (lv : LvAt C H L ns bl) (ha : Ev ta σ H (.ref L)) : Ev (tCB (rIsi K) (tCons ta (tCons (tC (.ref C)) tNil))) σ H (.bl true) := fun H1 e Q q => ha H1 e _ fun H2 e2 => by
  obtain ⟨dx, o, b, h1, h2, h3⟩ := lv.ext (e.trans e2)
  exact ⟨.ref L, .ref C, .ref C, .ref C, true, rfl, .own C, .base (.ins h1 c.cl I.ha I.hn I.htk I.hm), I.kC, q H2 e2⟩
theorem ev_noLv (I : LvI K C) (h : EvD K ta σ H d) : Ev (tCB (rIsi K) (tCons ta (tCons (tC (.ref C)) tNil))) σ H (.bl false) := fun H1 e Q q => h H1 e _ fun v H2 e2 g =>
  ⟨v, .ref C, .type (tyD d), .ref C, false, rfl, .own C, g.ty, I.kT d, q H2 e2⟩
end
section
variable {P : Program} {w : World} {K : PySem.W.Frag} {mg : Str → Option Value} {base : Heap} {f C D : Addr} {fd : FuncData}
theorem scEq : FnScope ["self", "other"] ["self", "other"] (defScope mEq) := ⟨rfl, rfl, rfl, by decide +kernel, rfl, by decide +kernel, by decide +kernel⟩
theorem ok_eq (F : Fun K "__eq__" "Levels.__eq__" mEq f fd) (T : Txt mg) (c : LvC K C) (I : LvI K C) (gC : mg "Levels" = some (.ref C)) : FnOk P w K mg base CX0 1 f fd ["self", "other"] (spEqL K C) := by
  refine F.ok scEq (fun vs H Q E h => ?_) (fun cdv A outer s H vs Q E hr h => ?_)
  · obtain ⟨L, y, ns, bl, rfl, _⟩ := h
    rfl
  · obtain ⟨L, y, ns, bl, rfl, lv, ok, alt⟩ := h
    refine ⟨_, pss_one (ps_ret (pe_and (pe_callB call_isi (by rfl) T.isn (by decide +kernel) (pa_cons (pv 1) (pa_cons (pe_glob (v := .ref C) rfl gC rfl) pa_nil)))
      (pe_and (pe_cmpR (op_eqD hr.units) (pe_fld (pv 0) rfl) (pe_fld (pv 1) rfl) (nomark _)) (pe_one (pe_cmpR (op_eqDK hr.units) (pe_fld (pv 0) rfl) (pe_fld (pv 1) rfl) (nomark _)))))), ?_⟩
    rcases alt with ⟨L2, ns2, bl2, rfl, lv2, ok2, kQ⟩ | ⟨d, g, kQ⟩
    · obtain ⟨b1, d1, r1⟩ := ev_belowR (σ := start ["self", "other"] [.ref L, .ref L2]) (ta := tVar 0) c lv (ev_var rfl)
      obtain ⟨b2, d2, r2⟩ := ev_belowR (σ := start ["self", "other"] [.ref L, .ref L2]) (ta := tVar 1) c lv2 (ev_var rfl)
      refine s_ret (v := .bl (sameL ns bl ns2 bl2)) (ev_andV (a := true) (b := sameL ns bl ns2 bl2) (ev_isLv c I lv2 (ev_var rfl)) fun _ => ev_andV (a := decide (ns = ns2)) (b := ns.all fun s => decide (bl s = bl2 s)) (ev_is (ed_eqD (ed_order c lv (ev_var rfl)) (ed_order c lv2 (ev_var rfl)) (noDict_txts _) (noDict_txts _) (shapedL ok.N.word) (shapedL ok2.N.word)) (by rw [eqv_txts])) fun hn => ?_) fun H1 e1 => kQ H1 e1
      have hn2 : ns = ns2 := of_decide_eq_true hn
      subst hn2
      exact ev_eqDc (fun s hs => ⟨fun w m => ok.N.word w (ok.sub s w m), fun w m => ok.N.word w (ok2.sub s w m)⟩) r1 d1 r2 d2
    · exact s_ret (v := .bl false) (ev_andV (a := false) (b := false) (ev_noLv I (ed_var rfl g)) fun z => by cases z) fun H1 e1 => kQ H1 e1
end
end K01
set_option maxHeartbeats 8000000
namespace K01
open PySem PySem.Spec PyProof.Rows L2 Evl My LamX
def pairOf (d : PyData) : Str × Str := (strD ((seqOf d).getD 0 .none), strD ((seqOf d).getD 1 .none))
theorem pair_is {ns : List Str} {d : PyData} (h : pairB ns d = true) : d = .tuple [.str (pairOf d).1, .str (pairOf d).2] ∧ (pairOf d).1 ∈ ns ∧ (pairOf d).2 ∈ ns ∧ ixOf (pairOf d).1 ns < ixOf (pairOf d).2 ns := by
  unfold pairB at h
  rw [Bool.and_eq_true, Bool.and_eq_true, Bool.and_eq_true] at h
  obtain ⟨⟨ht, h2⟩, ha, ho⟩ := h
  obtain ⟨ds, rfl⟩ := isTup_is ht
  have len2 : ds.length = 2 := of_decide_eq_true h2
  match ds, len2, ha, ho with
  | [a, b], _, ha, ho =>
    have ha2 : ([a, b].all (inD ns)) = true := ha
    rw [List.all_cons, List.all_cons, Bool.and_eq_true, Bool.and_eq_true] at ha2
    obtain ⟨h1, h2, _⟩ := ha2
    unfold inD at h1 h2
    rw [Bool.and_eq_true, decide_eq_true_eq] at h1 h2
    have e1 := word_is h1.1
    have e2 := word_is h2.1
    refine ⟨?_, h1.2, h2.2, of_decide_eq_true ho⟩
    show PyData.tuple [a, b] = .tuple [.str (strD a), .str (strD b)]
    rw [← e1, ← e2]
theorem prs_of {ns : List Str} : ∀ {ds : List PyData}, ds.all (pairB ns) = true → ds = prs (ds.map pairOf)
  | [], _ => rfl
  | d :: ds, h => by
    rw [List.all_cons, Bool.and_eq_true] at h
    have e := (pair_is h.1).1
    have ih := prs_of h.2
    rw [List.map_cons, prs, List.map_cons, ← e]
    congr 1
theorem pairs_ok {ns : List Str} {ds : List PyData} (h : ds.all (pairB ns) = true) (short : ds.length ≤ 10) : PairsOk ns (ds.map pairOf) := by
  refine ⟨by rw [List.length_map]; exact short, fun p hp => ?_⟩
  obtain ⟨d, hd, rfl⟩ := List.mem_map.mp hp
  obtain ⟨_, h1, h2, h3⟩ := pair_is (List.all_eq_true.mp h d hd)
  exact ⟨_, _, h3, (ixOf_at _ h1).1, (ixOf_at _ h2).1⟩
theorem names_ok {d : PyData} (h : namesD d = true) : isSeq d = true ∧ seqOf d = txts ((seqOf d).map strD) ∧ NamesOk ((seqOf d).map strD) := by
  unfold namesD len8 difD at h
  rw [Bool.and_eq_true, Bool.and_eq_true, Bool.and_eq_true, Bool.and_eq_true, decide_eq_true_eq, decide_eq_true_eq, decide_eq_true_eq] at h
  obtain ⟨⟨hs, h1, h8⟩, hw, nd⟩ := h
  refine ⟨hs, words_are hw, by rw [List.length_map]; exact h1, by rw [List.length_map]; exact h8, fun s m => ?_, nd⟩
  obtain ⟨x, hx, rfl⟩ := List.mem_map.mp m
  have w := List.all_eq_true.mp hw x hx
  rw [← word_is w]
  exact w
theorem belF_sub (ns : List Str) (ps : List (Str × Str)) : ∀ (pre : List Str) (s : Str), ∀ w ∈ belF ns ps pre s, w ∈ ns := fun pre => by
  unfold belF
  generalize hb : (fun _ : Str => ([] : List Str)) = b0
  have h0 : ∀ s, ∀ w ∈ b0 s, w ∈ ns := fun s w m => by
    rw [← hb] at m
    cases m
  clear hb
  induction pre generalizing b0 with
  | nil => exact h0
  | cons l r ih =>
    refine ih _ fun s w m => ?_
    have m2 : w ∈ (if s = l then rowOf ns ps b0 l else b0 s) := m
    split at m2
    · exact rowOf_sub _ _ _ _ w m2
    · exact h0 s w m2
theorem lv_ok {ns : List Str} {ps : List (Str × Str)} (N : NamesOk ns) : LvOk ns (belF ns ps ns) := ⟨N, fun s => Nat.le_trans (belF_len ns ps ns s) N.eight, belF_sub ns ps ns⟩
/-- Levels(names, pairs), at a new instance -/
def spInit (K : PySem.W.Frag) (C D : Addr) : Sp := fun vs H Q E => ∃ (L dx : Addr) (v1 v2 : V) (d1 d2 : PyData), vs = [.ref L, v1, v2] ∧ H L = some (.ins C dx []) ∧ Dd K H v1 d1 ∧ small d1 = true ∧ Dd K H v2 d2 ∧ small d2 = true ∧
  (namesD d1 = true → pairsB ((seqOf d1).map strD) d2 = true → (seqOf d2).length ≤ 10 ∧ ∀ H', But L H H' → LvAt C H' L ((seqOf d1).map strD) (belF ((seqOf d1).map strD) ((seqOf d2).map pairOf) ((seqOf d1).map strD)) → Q .non H') ∧
  (namesD d1 = false → Raises K D H d1 E) ∧ (namesD d1 = true → pairsB ((seqOf d1).map strD) d2 = false → Raises K D H d2 E)
section
variable {K : PySem.W.Frag} {C L D o : Addr} {σ : L2.St} {H : Hp} {te ta tl : TE} {d : PyData}
/-- list(e) of a list or tuple -/
theorem edl_listQ (h : EvD K te σ H d) (hs : isSeq d = true) : EvDL K (tCB (fun xs H Q => ∃ p ys, xs = [.ref p] ∧ (SqL K H p ys ∨ SqT K H p ys) ∧ ∀ l, H l = none → Q (.ref l) (upd H l (.lst ys))) (tCons te tNil)) σ H (seqOf d) := fun H1 e Q q =>
  h H1 e _ fun v H2 e2 g => by
    cases d with
    | list ds =>
      cases g with
      | @lst a xs _ hx ha => exact ⟨a, xs, rfl, .inl hx, fun l hl => q l _ _ (fresh_back e2 hl) (e2.trans (Ex.new hl)) upd_same (Dds.ext (Ex.new hl) _ _ ha)⟩
    | tuple ds =>
      cases g with
      | @tup a xs _ hx ha => exact ⟨a, xs, rfl, .inr hx, fun l hl => q l _ _ (fresh_back e2 hl) (e2.trans (Ex.new hl)) upd_same (Dds.ext (Ex.new hl) _ _ ha)⟩
    | _ => cases hs
end
/-! data stay where one instance changes -/
mutual
theorem dd_ins {K : PySem.W.Frag} {H H' : Hp} {L C dx : Addr} {fs : List (Str × V)} (hL : H L = some (.ins C dx fs)) (b : But L H H') : ∀ (d : PyData) (v : V), Dd K H v d → Dd K H' v d
  | .none, _, g => by
    cases g
    exact .non
  | .bool b, _, g => by
    cases g
    exact .bl b
  | .int i, _, g => by
    cases g
    exact .int i
  | .str x, _, g => by
    cases g
    exact .str x
  | .list ds, _, g => by
    cases g with
    | @lst a xs _ hs ha =>
      refine .lst ?_ (dds_ins hL b ds _ ha)
      have go : ∀ u, H a = some u → (∀ C dx fs, u ≠ .ins C dx fs) → H' a = some u := fun u h n => b a u (fun z => n C dx fs (Option.some.inj (by rw [← h, z]; exact hL))) h
      rcases hs with (hb | ⟨ob, hb⟩) | hb
      · exact .inl (.inl (go _ hb fun _ _ _ z => nomatch z))
      · exact .inl (.inr ⟨ob, go _ hb fun _ _ _ z => nomatch z⟩)
      · exact .inr hb
  | .tuple ds, _, g => by
    cases g with
    | @tup a xs _ hs ha =>
      refine .tup ?_ (dds_ins hL b ds _ ha)
      have go : ∀ u, H a = some u → (∀ C dx fs, u ≠ .ins C dx fs) → H' a = some u := fun u h n => b a u (fun z => n C dx fs (Option.some.inj (by rw [← h, z]; exact hL))) h
      rcases hs with (hb | ⟨ob, hb⟩) | hb
      · exact .inl (.inl (go _ hb fun _ _ _ z => nomatch z))
      · exact .inl (.inr ⟨ob, go _ hb fun _ _ _ z => nomatch z⟩)
      · exact .inr hb
  | .dict kvs, _, g => by
    cases g with
    | @dct a hb => exact .dct (b a _ (fun z => by rw [z, hL] at hb; cases hb) hb)
theorem dds_ins {K : PySem.W.Frag} {H H' : Hp} {L C dx : Addr} {fs : List (Str × V)} (hL : H L = some (.ins C dx fs)) (b : But L H H') : ∀ (ds : List PyData) (vs : List V), Dds K H vs ds → Dds K H' vs ds
  | [], _, g => by
    cases g
    exact .nil
  | d :: ds, _, g => by
    cases g with
    | cons g1 g2 => exact .cons (dd_ins hL b d _ g1) (dds_ins hL b ds _ g2)
end
section
variable {P : Program} {w : World} {K : PySem.W.Frag} {mg : Str → Option Value} {base : Heap} {f C D : Addr} {fd : FuncData}
theorem scInit : FnScope ["self", "names", "pairs", "order"] ["self", "names", "pairs"] (defScope mInit) := ⟨rfl, rfl, rfl, by decide +kernel, rfl, by decide +kernel, by decide +kernel⟩
theorem ok_init {dvs : List V} (F : FunD K "__init__" "Levels.__init__" (defArgs mInit) (defBody mInit) (defScope mInit) dvs [] f fd) (T : Txt mg) (c : LvC K C) (V : InvE P w K mg base "InvalidLevels" D) (NM : Df P w K mg base "are_names" ["thing"] 2 (spB K namesD)) (PR : Df P w K mg base "are_pairs" ["thing", "order"] 3 (spPairs K)) (LB : Df P w K mg base "levels_below" ["order", "pairs"] 1 (spBelow K)) :
    FnOk P w K mg base (L2.CX P w) 4 f fd ["self", "names", "pairs"] (spInit K C D) := by
  refine F.ok (CX := L2.CX P w) scInit (fun vs H Q E h => ?_) (fun cdv A outer s H vs Q E hr h => ?_)
  · obtain ⟨L, dx, v1, v2, d1, d2, rfl, _⟩ := h
    rfl
  · obtain ⟨L, dx, v1, v2, d1, d2, rfl, hL, g1, s1, g2, s2, kQ, kE1, kE2⟩ := h
    have hr1 : Room 1 _ := hr.mono (by decide)
    have hr2 : Room 2 _ := hr.mono (by decide)
    refine ⟨_, pss_cons (ps_if (pt_not (pt_val (pe_df NM hr2 rfl (pa_cons (pv 1) pa_nil)))) (pss_one (ps_raise rfl (takes_of rfl rfl rfl rfl) (pmk_invE V hr2 rfl (pv 1)))) pss_nil)
      (pss_cons (ps_set (i := 3) scInit.nd rfl (Or.inl rfl) (pe_callTy call_list_of (by rfl) T.lst (by decide +kernel) (pa_cons (pv 1) pa_nil)))
      (pss_cons (ps_if (pt_not (pt_val (pe_df PR hr rfl (pa_cons (pv 2) (pa_cons (pv 3) pa_nil))))) (pss_one (ps_raise rfl (takes_of rfl rfl rfl rfl) (pmk_invE V hr2 rfl (pv 2)))) pss_nil)
      (pss_cons (ps_fld (pv 0) (pv 3) rfl) (pss_one (ps_fld (pv 0) (pe_df LB hr1 rfl (pa_cons (pv 3) (pa_cons (pv 2) pa_nil))) rfl))))), ?_⟩
    refine q_when (b := !namesD d1) (et_not (et_B (ev_spB (F := namesD) (ed_var rfl g1) s1))) (fun hb H1 e1 => ?_) (fun hb H1 e1 => ?_)
    · have hf : namesD d1 = false := by
        cases h : namesD d1
        · rfl
        · rw [h] at hb
          cases hb
      exact mkO1 (ev_var rfl) fun dd H2 e2 hdd => kE1 hf dd _ H2 (e1.trans e2) hdd (Dd.ext (e1.trans e2) _ _ g1)
    · have hn := notF hb
      obtain ⟨hs1, hw, N⟩ := names_ok hn
      refine q_asgDL (K := K) (edl_listQ (ed_var rfl (Dd.ext e1 _ _ g1)) hs1) fun o xs H2 no e2 ho go => ?_
      rw [hw] at go
      rw [Dds.txts go] at ho
      generalize hns : (seqOf d1).map strD = ns at hw N ho kQ kE2
      have e12 := e1.trans e2
      have pb : Ev (tCall (spPairs K) [] E0 (tCons (tVar 2) (tCons (tVar 3) tNil))) ([some (.ref L), some v1, some v2, some (.ref o)] : L2.St) H2 (.bl (pairsB ns d2)) := fun H3 e3 Q3 q3 =>
        ⟨_, rfl, _, rfl, v2, o, d2, ns, rfl, Dd.ext (e12.trans e3) _ _ g2, s2, sq_of (e3 _ _ ho), fun H4 e4 => q3 H4 e4⟩
      refine q_when (b := !pairsB ns d2) (et_not (et_B pb)) (fun hb2 H3 e3 => ?_) (fun hb2 H3 e3 => ?_)
      · have hf : pairsB ns d2 = false := by
          cases h : pairsB ns d2
          · rfl
          · rw [h] at hb2
            cases hb2
        exact mkO1 (ev_var rfl) fun dd H4 e4 hdd => kE2 hn hf dd _ H4 ((e12.trans e3).trans e4) hdd (Dd.ext ((e12.trans e3).trans e4) _ _ g2)
      · have hp := notF hb2
        have e13 := e12.trans e3
        obtain ⟨short, kQ⟩ := kQ hn hp
        have hp2 : isSeq d2 = true ∧ (seqOf d2).all (pairB ns) = true := by
          unfold pairsB at hp
          rw [Bool.and_eq_true] at hp
          exact hp
        have ho3 := e3 _ _ ho
        have hL3 := e13 _ _ hL
        have neo : o ≠ L := fun z => by
          rw [z, e1 _ _ hL] at no
          cases no
        refine ⟨_, rfl, _, rfl, L, C, dx, _, rfl, hL3, c.cl, c.no, by decide, ?_⟩
        have but4 : But L H3 (upd H3 L (.ins C dx (putF "order" (.ref o) []))) := (But.refl L H3).upd
        have ho4 := but4 _ _ neo ho3
        refine ⟨_, rfl, _, rfl, o, v2, d2, ns, (seqOf d2).map pairOf, rfl, sq_of ho4, N, dd_ins hL3 but4 _ _ (Dd.ext e13 _ _ g2), hp2.1, prs_of hp2.2, pairs_ok hp2.2 short, fun b H5 e5 nb dc => ?_⟩
        have hL5 : H5 L = some (.ins C dx (putF "order" (.ref o) [])) := e5 _ _ upd_same
        refine ⟨_, rfl, L, C, dx, _, rfl, hL5, c.cl, c.nb, (show 1 < 1000 by decide), ?_⟩
        have but6 : But L H5 (upd H5 L (.ins C dx (putF "below" (.ref b) (putF "order" (.ref o) [])))) := (But.refl L H5).upd
        have neb : b ≠ L := fun z => by
          rw [z] at nb
          rw [upd_same] at nb
          cases nb
        refine kQ _ (fun a u n h => but6 a u n (e5 a u (but4 a u n (e13 a u h)))) ⟨dx, o, b, upd_same, but6 _ _ neo (e5 _ _ ho4), ?_⟩
        obtain ⟨ka, k1, k2⟩ := dc
        exact ⟨ka, but6 _ _ neb k1, k2.but but6 fun xs z => by rw [hL5] at z; cases z⟩
end
end K01
set_option maxHeartbeats 8000000
namespace K01
open PySem PySem.Spec PyProof.Rows L2 Evl My LamX
abbrev sDrawn : Stmt := top 17
mutual
theorem dd_but {K : PySem.W.Frag} {H H' : Hp} {a : Addr} {xs : List V} (h : H a = some (.lst xs)) (b : But a H H') : ∀ (d : PyData) (v : V), noList d = true → Dd K H v d → Dd K H' v d
  | .none, _, _, g => by
    cases g
    exact .non
  | .bool b, _, _, g => by
    cases g
    exact .bl b
  | .int i, _, _, g => by
    cases g
    exact .int i
  | .str x, _, _, g => by
    cases g
    exact .str x
  | .tuple ds, _, n, g => by
    cases g with
    | @tup c ys _ hs ha =>
      refine .tup ?_ (dds_but h b ds _ n ha)
      have ne : ∀ {u : HO}, H c = some u → (∀ zs, u ≠ .lst zs) → H' c = some u := fun {u} hb nz => b c u (fun z => by
        rw [z, h] at hb
        exact nz xs (Option.some.inj hb).symm) hb
      rcases hs with (hb | ⟨ob, hb⟩) | hb
      · exact .inl (.inl (ne hb (fun _ z => nomatch z)))
      · exact .inl (.inr ⟨ob, ne hb (fun _ z => nomatch z)⟩)
      · exact .inr hb
  | .list _, _, n, _ => by cases n
  | .dict _, _, n, _ => by cases n
theorem dds_but {K : PySem.W.Frag} {H H' : Hp} {a : Addr} {xs : List V} (h : H a = some (.lst xs)) (b : But a H H') : ∀ (ds : List PyData) (vs : List V), noLists ds = true → Dds K H vs ds → Dds K H' vs ds
  | [], _, _, g => by
    cases g
    exact .nil
  | d :: ds, _, n, g => by
    cases g with
    | cons g1 g2 =>
      have n2 : (noList d && noLists ds) = true := n
      rw [Bool.and_eq_true] at n2
      exact .cons (dd_but h b d _ n2.1 g1) (dds_but h b ds _ n2.2 g2)
end
theorem But.updN {p q : Addr} {H H' : Hp} {o : HO} (b : But p H H') (n : H q = none) : But p H (L2.upd H' q o) := fun a u na h => by
  rw [upd_ne (ne_of_none h n)]
  exact b a u na h
/-! the drawn names: their first signs differ -/
def hd8 (i : Nat) : Nat := [108, 97, 98, 122, 101, 109, 104, 113].getD i 0
def Good (i : Nat) (s : Str) : Prop := s.cps.toList.head? = some (hd8 i) ∧ wordD (.str s) = true
def base8 : List Str := ["low", "a", "bb", "zzz", "eightabc", "m", "hi", "q"]
theorem base_good : ∀ i s, base8[i]? = some s → Good i s := by
  intro i s h
  have hi : i < 8 := (List.getElem?_eq_some_iff.mp h).1
  match i, hi, h with
  | 0, _, h => cases h; exact ⟨by decide +kernel, by decide +kernel⟩
  | 1, _, h => cases h; exact ⟨by decide +kernel, by decide +kernel⟩
  | 2, _, h => cases h; exact ⟨by decide +kernel, by decide +kernel⟩
  | 3, _, h => cases h; exact ⟨by decide +kernel, by decide +kernel⟩
  | 4, _, h => cases h; exact ⟨by decide +kernel, by decide +kernel⟩
  | 5, _, h => cases h; exact ⟨by decide +kernel, by decide +kernel⟩
  | 6, _, h => cases h; exact ⟨by decide +kernel, by decide +kernel⟩
  | 7, _, h => cases h; exact ⟨by decide +kernel, by decide +kernel⟩
theorem hd8_inj : ∀ i, i < 8 → ∀ j, j < 8 → hd8 i = hd8 j → i = j := by decide
theorem cut7 (s : Str) : (cutS s none (some 7)).cps.toList = s.cps.toList.take 7 := by
  show ((s.cps.toList.drop 0).take (min 7 s.length - 0)) = s.cps.toList.take 7
  rw [List.drop_zero, Nat.sub_zero]
  have e : s.cps.toList.length = s.length := by simp [Str.length]
  by_cases h : 7 ≤ s.length
  · rw [Nat.min_eq_left h]
  · rw [Nat.min_eq_right (by omega), List.take_of_length_le (by omega), List.take_of_length_le (by omega)]
theorem word_parts {s : Str} : wordD (.str s) = true ↔ (1 ≤ s.cps.toList.length ∧ s.cps.toList.length ≤ 8) ∧ ∀ c ∈ s.cps.toList, c ∈ LET.cps.toList := by
  have e : s.cps.toList.length = s.length := by simp [Str.length]
  unfold wordD
  show (true && (decide (1 ≤ s.length) && decide (s.length ≤ 8)) && (s.cps.toList.all fun c => decide (c ∈ LET.cps.toList))) = true ↔ _
  rw [Bool.true_and, Bool.and_eq_true, Bool.and_eq_true, decide_eq_true_eq, decide_eq_true_eq, List.all_eq_true, e]
  simp only [decide_eq_true_eq]
theorem bend_good {i : Nat} {s : Str} {c : Nat} (g : Good i s) (hc : c ∈ LET.cps.toList) : Good i (cutS s none (some 7) ++ ⟨#[c]⟩) := by
  obtain ⟨g1, g2⟩ := g
  have e : (cutS s none (some 7) ++ (⟨#[c]⟩ : Str)).cps.toList = s.cps.toList.take 7 ++ [c] := by
    have q := TL.tl_append (cutS s none (some 7)) (⟨#[c]⟩ : Str)
    have q2 : (cutS s none (some 7) ++ (⟨#[c]⟩ : Str)).cps.toList = (cutS s none (some 7)).cps.toList ++ [c] := q
    rw [q2, cut7]
  obtain ⟨⟨l1, l2⟩, l3⟩ := word_parts.mp g2
  refine ⟨?_, word_parts.mpr ⟨?_, fun x hx => ?_⟩⟩
  · rw [e]
    cases h : s.cps.toList with
    | nil =>
      rw [h] at l1
      cases l1
    | cons a r =>
      rw [h] at g1
      rw [← g1]
      rfl
  · rw [e, List.length_append, List.length_take]
    show 1 ≤ min 7 s.cps.toList.length + 1 ∧ min 7 s.cps.toList.length + 1 ≤ 8
    omega
  · rw [e] at hx
    rcases List.mem_append.mp hx with m | m
    · exact l3 x (List.mem_of_mem_take m)
    · rw [List.mem_singleton.mp m]
      exact hc
theorem names_good {ns : List Str} (h1 : 1 ≤ ns.length) (h8 : ns.length ≤ 8) (g : ∀ i s, ns[i]? = some s → Good i s) : NamesOk ns := by
  refine ⟨h1, h8, fun s m => ?_, ?_⟩
  · obtain ⟨i, hi⟩ := List.mem_iff_getElem?.mp m
    exact (g i s hi).2
  · rw [List.nodup_iff_pairwise_ne, List.pairwise_iff_getElem]
    intro i j hi hj ij e
    have g1 := (g i _ (List.getElem?_eq_getElem hi)).1
    have g2 := (g j _ (List.getElem?_eq_getElem hj)).1
    rw [e, g2] at g1
    have := hd8_inj j (by omega) i (by omega) (Option.some.inj g1)
    omega
def Drn (ns : List Str) : Prop := ∀ s ∈ ns, s ≠ "other" ∧ s ≠ "nobody"
theorem hd8_off : ∀ i, i < 8 → hd8 i ≠ 111 ∧ hd8 i ≠ 110 := by decide
theorem names_off {ns : List Str} (h8 : ns.length ≤ 8) (g : ∀ i s, ns[i]? = some s → Good i s) : Drn ns := fun s m => by
  obtain ⟨i, hi⟩ := List.mem_iff_getElem?.mp m
  have lt := (List.getElem?_eq_some_iff.mp hi).1
  have h1 := (g i s hi).1
  have off := hd8_off i (by omega)
  constructor
  · rintro rfl
    rw [show ("other" : Str).cps.toList.head? = some 111 by decide +kernel] at h1
    exact off.1 (Option.some.inj h1).symm
  · rintro rfl
    rw [show ("nobody" : Str).cps.toList.head? = some 110 by decide +kernel] at h1
    exact off.2 (Option.some.inj h1).symm
theorem xyz_at {m : Int} (h0 : 0 ≤ m) (h1 : m < 3) : ∃ c, atI ("xyz" : Str).cps.toList m = some c ∧ c ∈ LET.cps.toList := by
  have : m = 0 ∨ m = 1 ∨ m = 2 := by omega
  rcases this with rfl | rfl | rfl
  · exact ⟨120, by decide +kernel, by decide +kernel⟩
  · exact ⟨121, by decide +kernel, by decide +kernel⟩
  · exact ⟨122, by decide +kernel, by decide +kernel⟩
theorem cut_take {xs : List V} {n : Int} (h0 : 0 ≤ n) (h : n ≤ xs.length) : cutV xs none (some n) = xs.take n.toNat := by
  obtain ⟨k, rfl⟩ : ∃ k : Nat, n = k := ⟨n.toNat, by omega⟩
  unfold cutV
  rw [HT.sIx_nat]
  show (xs.drop 0).take (min k xs.length - 0) = _
  rw [List.drop_zero, Nat.sub_zero, Nat.min_eq_left (by omega), Int.toNat_natCast]
def spDrawn (K : PySem.W.Frag) : Sp := fun vs H Q _ => ∃ p, vs = [.ref p] ∧ PoolAt H p ∧ ∀ (r np pp : Addr) (us : List V) (ns : List Str) (ps : List (Str × Str)) (H' : Hp), But p H H' → H' r = some (.lst [.ref np, .ref pp]) → H' np = some (.lst (ns.map V.str)) → H' pp = some (.lst us) → Dds K H' us (prs ps) → NamesOk ns → PairsOk ns ps → Drn ns → Q (.ref r) H'
theorem noLists_prs : ∀ ps : List (Str × Str), noLists (prs ps) = true
  | [] => rfl
  | p :: ps => by
    show (noList (.tuple [.str p.1, .str p.2]) && noLists (prs ps)) = true
    rw [noLists_prs ps]
    rfl
theorem fresh_b {p q : Addr} {H H' : Hp} (b : But p H H') (n : H' q = none) (ne : q ≠ p) : H q = none := by
  cases h : H q with
  | none => rfl
  | some u =>
    rw [b q u ne h] at n
    cases n
theorem ev_cutN {σ : L2.St} {H : Hp} {ta tb : TE} {z : Str} {j : Int} (ha : Ev ta σ H (.str z)) (hb : Ev tb σ H (.int j)) (hz : z.length ≤ 100000) : Ev (L2.tSl rSlS ta tNoPart (tPart tb)) σ H (.str (cutS z none (some j))) := fun H1 e Q q =>
  ha H1 e _ fun H2 e2 => hb H2 (e.trans e2) _ fun H3 e3 => ⟨j, rfl, z, rfl, sz_of hz, q H3 (e2.trans e3)⟩
theorem word_len {s : Str} (h : wordD (.str s) = true) : s.length ≤ 8 := by
  have e : s.cps.toList.length = s.length := by simp [Str.length]
  have := (word_parts.mp h).1.2
  omega
theorem at_nat {ns : List Str} {k : Nat} {s : Str} (h : ns[k]? = some s) : atI (ns.map V.str) (k : Int) = some (.str s) := atI_nat (by rw [List.getElem?_map, h]; rfl)
theorem ixN_nat {n k : Nat} (h : k < n) : ixN n (k : Int) = some k := by
  unfold ixN
  simp
  omega
def ND : List Str := ["_law_pool_here", "_law_names", "_law_at", "_law_pairs", "_law_turn", "_law_high"]
section
variable {P : Program} {w : World} {K : PySem.W.Frag} {mg : Str → Option Value} {base : Heap} {f : Addr} {fd : FuncData}
theorem scDrawn : FnScope ND ["_law_pool_here"] (defScope sDrawn) := ⟨rfl, rfl, rfl, by decide +kernel, rfl, by decide +kernel, by decide +kernel⟩
theorem ok_drawn (F : Fun K "_law_drawn" "_law_drawn" sDrawn f fd) (T : Txt mg) (TK : Df P w K mg base "_law_take" ["_law_pool_here", "_law_sides"] 1 spTake) : FnOk P w K mg base CX0 2 f fd ["_law_pool_here"] (spDrawn K) := by
  refine F.ok scDrawn (fun vs H Q E h => ?_) (fun cdv A outer s H vs Q E hr h => ?_)
  · obtain ⟨p, rfl, _⟩ := h
    rfl
  · obtain ⟨p, rfl, hp, kQ⟩ := h
    have hr1 : Room 1 _ := hr.mono (by decide)
    refine ⟨_, pss_cons (ps_set (i := 1) scDrawn.nd rfl (Or.inl rfl) (pe_slice sl_list (pe_lst (pa_cons pe_str (pa_cons pe_str (pa_cons pe_str (pa_cons pe_str (pa_cons pe_str (pa_cons pe_str (pa_cons pe_str (pa_cons pe_str pa_nil))))))))) po_none (po_some (pe_op op_add pe_int (pe_df TK hr1 rfl (pa_cons (pv 0) (pa_cons pe_int pa_nil)))))))
      (pss_cons (ps_for PassesOwn.never rfl (pi_range2 rfl T.rng (pa_cons pe_int (pa_cons (pe_callB call_len (by rfl) T.len (by decide +kernel) (pa_cons (pv 1) pa_nil)) pa_nil))) (pg_name (i := 2) scDrawn.nd rfl (Or.inl rfl))
        (pss_one (ps_asg (pe_op op_add_str (pe_slice sl_str (pe_ix ix_list (pv 1) (pv 2) (fun _ _ => rfl)) po_none (po_some pe_int)) (pe_ix ix_str pe_str (pe_df TK hr1 rfl (pa_cons (pv 0) (pa_cons pe_int pa_nil))) (fun _ _ => rfl))) (pg_sub (pv 1) (pv 2) set_list))))
      (pss_cons (ps_set (i := 3) scDrawn.nd rfl (Or.inl rfl) (pe_lst pa_nil))
      (pss_cons (ps_for PassesOwn.never rfl (pi_range1 rfl T.rng (pa_cons (pe_df TK hr1 rfl (pa_cons (pv 0) (pa_cons pe_int pa_nil))) pa_nil)) (pg_name (i := 4) scDrawn.nd rfl (Or.inl rfl))
        (pss_cons (ps_set (i := 5) scDrawn.nd rfl (Or.inl rfl) (pe_df TK hr1 rfl (pa_cons (pv 0) (pa_cons (pe_callB call_len (by rfl) T.len (by decide +kernel) (pa_cons (pv 1) pa_nil)) pa_nil))))
        (pss_one (ps_if (pt_cmpR op_gt (pv 5) pe_int (nomark _)) (pss_one (ps_expr (pe_bm PySem.F.plainAttrs_list PySem.F.slot_list_append PySem.F.type_list_append mt_append (pv 3) (pa_cons (pe_tup (pa_cons (pe_ix ix_list (pv 1) (pe_df TK hr1 rfl (pa_cons (pv 0) (pa_cons (pv 5) pa_nil))) (fun _ _ => rfl)) (pa_cons (pe_ix ix_list (pv 1) (pv 5) (fun _ _ => rfl)) pa_nil))) pa_nil)))) pss_nil))))
      (pss_one (ps_ret (pe_lst (pa_cons (pv 1) (pa_cons (pv 3) pa_nil)))))))), ?_⟩
    -- the names
    refine ⟨(by show 8 ≤ sizeLine; decide), fun bp nb => ?_⟩
    have bpp : bp ≠ p := hp.ne nb
    refine take_go (i := 0) (sides := 8) (hp.ext (Ex.new nb)) rfl ev_c ⟨by decide, by decide⟩ fun n H2 n0 n1 b2 hp2 => ?_
    refine ⟨1, n, rfl, rfl, 1 + n, rfl, bp, base8.map V.str, rfl, sq_of (b2 _ _ bpp upd_same), fun np nn => ?_⟩
    have npp : np ≠ p := hp2.ne nn
    have but2 : But p H H2 := (But.ofEx (Ex.new nb)).trans b2
    have n0H : H np = none := fresh_b but2 nn npp
    have cut : cutV (base8.map V.str) none (some (1 + n)) = (base8.take (1 + n).toNat).map V.str := by
      rw [cut_take (by omega) (by show 1 + n ≤ 8; omega), List.map_take]
    rw [cut]
    have len0 : (base8.take (1 + n).toNat).length = (1 + n).toNat := by
      rw [List.length_take]
      show min (1 + n).toNat 8 = _
      omega
    have hp3 : PoolAt (upd H2 np (.lst ((base8.take (1 + n).toNat).map V.str))) p := hp2.ext (Ex.new nn)
    generalize hN : (1 + n).toNat = N at len0 hp3
    have N1 : 1 ≤ N := by omega
    have N8 : N ≤ 8 := by omega
    refine q_forR2 (lo := 1) (n := (N : Int)) (ea_cons ev_c (ea_cons (ev_is (ed_lenL (K := K) (ev_var rfl) (sq_of upd_same)) (by rw [List.length_map, len0])) ea_nil)) ⟨by decide, by decide, by omega, by omega⟩
      (fun i σ' H' => (∃ x2 : Option V, σ' = [some (.ref p), some (.ref np), x2, none, none, none]) ∧ But p H H' ∧ PoolAt H' p ∧ ∃ xs : List Str, H' np = some (.lst (xs.map V.str)) ∧ xs.length = N ∧ ∀ i s, xs[i]? = some s → Good i s) ?_ ?_ ?_
    · intro H4 e4
      refine ⟨⟨_, rfl⟩, (but2.updN n0H).ex e4, hp3.ext e4, base8.take N, e4 _ _ upd_same, len0, fun i s h => ?_⟩
      rw [List.getElem?_take] at h
      split at h
      · exact base_good i s h
      · cases h
    · rintro i σ' H4 hi ⟨⟨x2, rfl⟩, but4, hp4, xs, hx, lx, gx⟩
      have hk : 1 + i < xs.length := by omega
      have hs := List.getElem?_eq_getElem hk
      have gs := gx _ _ hs
      generalize xs[1 + i] = s at hs gs
      have ix : ((1 : Int) + (i : Int)) = ((1 + i : Nat) : Int) := by omega
      have ls := word_len gs.2
      refine (ev_cutN (ev_op (ev_var rfl) (ev_var rfl) (rv_ixL (sq_of hx) (by rw [ix]; exact at_nat hs))) ev_c (by omega)) H4 (Ex.refl _) _ fun H5 e5 => ?_
      refine take_go (i := 0) (sides := 3) (hp4.ext e5) rfl ev_c ⟨by decide, by decide⟩ fun m H6 m0 m1 b6 hp6 => ?_
      obtain ⟨c, hc, hcl⟩ := xyz_at m0 m1
      have cl : (cutS s none (some 7)).length ≤ 8 := Nat.le_trans (cutS_length s none (some 7)) ls
      have hx6 := b6 _ _ npp (e5 _ _ hx)
      refine ⟨_, m, c, rfl, rfl, by decide, hc, _, _, rfl, rfl, sz_of (by show _ + 1 ≤ _; omega), _, rfl, _, rfl, np, xs.map V.str, _, 1 + i, rfl, rfl, hx6, by rw [List.length_map, ix]; exact ixN_nat hk, ⟨_, rfl⟩, ?_, ?_, xs.set (1 + i) (cutS s none (some 7) ++ ⟨#[c]⟩), ?_, by rw [List.length_set]; exact lx, fun k z hz => ?_⟩
      · exact ((but4.ex e5).trans b6).updN n0H
      · obtain ⟨c', z', h1, h2⟩ := hp6
        exact ⟨c', z', by rw [upd_ne npp.symm]; exact h1, h2⟩
      · rw [upd_same, List.map_set]
      · rw [List.getElem?_set] at hz
        split at hz
        · rename_i ek
          cases hz
          rw [← ek]
          exact bend_good gs hcl
        · exact gx k z hz
    · rintro σ' H4 ⟨⟨x2, rfl⟩, but4, hp4, ns, hx, lx, gx⟩
      have NO := names_good (by omega) (by omega) gx
      -- the pairs
      refine q_asgL (el_lst ea_nil (by simp)) fun pp H5 npp5 e5 hpp => ?_
      have hp5 := hp4.ext e5
      have ppp : pp ≠ p := hp4.ne npp5
      have pnp : np ≠ pp := ne_of_none hx npp5
      have ppH : H pp = none := fresh_b but4 npp5 ppp
      refine take_go (i := 0) (sides := 11) hp5 rfl ev_c ⟨by decide, by decide⟩ fun t H6 t0 t1 b6 hp6 => ?_
      refine ⟨t, rfl, by omega, by omega, for_range (lo := 0) (n := t.toNat) (fun i σ' H' => (∃ o4 o5 : Option V, σ' = [some (.ref p), some (.ref np), x2, some (.ref pp), o4, o5]) ∧ But p H H' ∧ PoolAt H' p ∧ H' np = some (.lst (ns.map V.str)) ∧
        ∃ (us : List V) (ps : List (Str × Str)), H' pp = some (.lst us) ∧ Dds K H' us (prs ps) ∧ ps.length ≤ i ∧ ∀ q ∈ ps, ∃ a b : Nat, a < b ∧ ns[a]? = some q.1 ∧ ns[b]? = some q.2) ?_ ?_ ?_⟩
      · exact ⟨⟨_, _, rfl⟩, (but4.ex e5).trans b6, hp6, b6 _ _ npp (e5 _ _ hx), [], [], b6 _ _ ppp hpp, .nil, Nat.le_refl _, fun q m => nomatch m⟩
      · rintro i σ' H7 hi ⟨⟨o4, o5, rfl⟩, but7, hp7, hx7, us, ps, hu, gd, lp, good⟩
        show tCall spTake [] E0 (tCons (tVar 0) (tCons (tCB (rLenD K) (tCons (tVar 1) tNil)) tNil)) ([some (.ref p), some (.ref np), x2, some (.ref pp), some (.int ((0 : Int) + (i : Int))), o5] : L2.St) H7 _
        refine take_go (i := 0) (sides := (ns.length : Int)) hp7 rfl (ev_is (ed_lenL (K := K) (ev_var rfl) (sq_of hx7)) (by rw [List.length_map])) ⟨by omega, by omega⟩ fun hi8 H8 h0 h1 b8 hp8 => ?_
        have hx8 := b8 _ _ npp hx7
        have hu8 := b8 _ _ ppp hu
        obtain ⟨pc, pz, hpl, _⟩ := id hp7
        have gd8 : Dds K H8 us (prs ps) := dds_but hpl b8 _ _ (noLists_prs ps) gd
        refine s_when (etGt (ev_var rfl) ev_c) (fun hb H9 e9 => ?_) (fun hb H9 e9 => ?_)
        · have pos : 0 < hi8 := of_decide_eq_true hb
          have hx9 := e9 _ _ hx8
          have hu9 := e9 _ _ hu8
          have hp9 := hp8.ext e9
          refine ⟨_, rfl, .inl ⟨rfl, us, sq_of hu9⟩, _, rfl, ?_⟩
          refine take_go (i := 0) (sides := hi8) hp9 rfl (ev_var rfl) ⟨pos, by omega⟩ fun lo H10 l0 l1 b10 hp10 => ?_
          obtain ⟨a, ha⟩ : ∃ a : Nat, lo = a := ⟨lo.toNat, by omega⟩
          obtain ⟨b, hbb⟩ : ∃ b : Nat, hi8 = b := ⟨hi8.toNat, by omega⟩
          subst ha
          subst hbb
          have ga := List.getElem?_eq_getElem (show a < ns.length by omega)
          have gb := List.getElem?_eq_getElem (show b < ns.length by omega)
          generalize ns[a] = sa at ga
          generalize ns[b] = sb at gb
          have hx10 := b10 _ _ npp hx9
          have hu10 := b10 _ _ ppp hu9
          refine ⟨np, _, _, _, rfl, rfl, sq_of hx10, at_nat ga, _, rfl, _, rfl, np, _, _, _, rfl, rfl, sq_of hx10, at_nat gb, (by show 2 ≤ sizeLine; decide), fun tp ntp => ?_⟩
          obtain ⟨pc9, pz9, hpl9, _⟩ := id hp9
          have gd10 : Dds K H10 us (prs ps) := dds_but hpl9 b10 _ _ (noLists_prs ps) (Dds.ext e9 _ _ gd8)
          have tpp : tp ≠ p := hp10.ne ntp
          have eT : Ex H10 (upd H10 tp (.tup [.str sa, .str sb])) := Ex.new ntp
          have ppt : pp ≠ tp := ne_of_none hu10 ntp
          have hu11 : (upd H10 tp (.tup [.str sa, .str sb])) pp = some (.lst us) := eT _ _ hu10
          refine ⟨pp, us, .ref tp, rfl, rfl, hu11, sz_lt (by have := gd.len; rw [List.length_map] at this; omega), ⟨_, _, rfl⟩, ?_, ?_, ?_, us ++ [.ref tp], ps ++ [(sa, sb)], upd_same, ?_, ?_, ?_⟩
          · exact ((((but7.trans b8).ex e9).trans b10).ex eT).updN ppH
          · obtain ⟨c', z', h1', h2'⟩ := hp10.ext eT
            exact ⟨c', z', by rw [upd_ne ppp.symm]; exact h1', h2'⟩
          · rw [upd_ne pnp]
            exact eT _ _ hx10
          · rw [prs, List.map_append]
            refine Dds.app (Dds.upd hu11 _ _ (noLists_prs ps) (Dds.ext eT _ _ gd10)) (.cons (Dd.upd hu11 _ _ rfl ?_) .nil)
            exact .tup (st_of upd_same) (.cons (.str _) (.cons (.str _) .nil))
          · rw [List.length_append]
            show ps.length + 1 ≤ i + 1
            omega
          · intro q m
            rcases List.mem_append.mp m with m | m
            · exact good q m
            · rw [List.mem_singleton.mp m]
              exact ⟨a, b, by omega, ga, gb⟩
        · exact ⟨⟨_, _, rfl⟩, (but7.trans b8).ex e9, hp8.ext e9, e9 _ _ hx8, us, ps, e9 _ _ hu8, Dds.ext e9 _ _ gd8, by omega, good⟩
      · rintro σ' H7 ⟨⟨o4, o5, rfl⟩, but7, hp7, hx7, us, ps, hu, gd, lp, good⟩
        exact s_retL (el_lst (ea_cons (ev_var rfl) (ea_cons (ev_var rfl) ea_nil)) (by simp)) fun r H8 hr8 e8 h8 => kQ r np pp us ns ps H8 (but7.ex e8) h8 (e8 _ _ hx7) (e8 _ _ hu) (Dds.ext e8 _ _ gd) NO ⟨by omega, good⟩ (names_off (by omega) gx)
end
end K01
set_option maxHeartbeats 8000000
namespace K01
open PySem PySem.Spec PyProof.Rows L2 Evl My LamX
abbrev sLBelow : Stmt := top 18
abbrev sMost : Stmt := top 19
abbrev sLeast : Stmt := top 20
def NLB : List Str := ["_law_names", "_law_pairs", "_law_found", "_law_name", "_law_own", "_law_low", "_law_high", "_law_one"]
section
variable {K : PySem.W.Frag} {σ : L2.St} {H : Hp} {ta tb te : TE} {i : Nat} {p : Addr} {xs : List V} {ds es : List PyData} {d : PyData}
theorem ed_lenNL (h : EvDL K te σ H ds) : Ev (tCB (rLenD K) (tCons te tNil)) σ H (.int (ds.length : Int)) := fun H1 e Q q =>
  h H1 e _ fun p xs H2 _ e2 hx g => ⟨_, ds.length, rfl, .inl ⟨_, sq_of hx, g.len.symm⟩, q H2 e2⟩
end
section
variable {P : Program} {w : World} {K : PySem.W.Frag} {mg : Str → Option Value} {base : Heap} {f : Addr} {fd : FuncData}
theorem scLBelow : FnScope NLB ["_law_names", "_law_pairs"] (defScope sLBelow) := ⟨rfl, rfl, rfl, by decide +kernel, rfl, by decide +kernel, by decide +kernel⟩
theorem ok_lbelow (F : Fun K "_law_below" "_law_below" sLBelow f fd) : FnOk P w K mg base CX0 1 f fd ["_law_names", "_law_pairs"] (spBelow K) := by
  refine F.ok scLBelow (fun vs H Q E h => ?_) (fun cdv A outer s H vs Q E hr h => ?_)
  · obtain ⟨o, v, d, ns, ps, rfl, _⟩ := h
    rfl
  · obtain ⟨o, v, d, ns, ps, rfl, ho, N, gd, hsq, hps, PO, kQ⟩ := h
    have hu := hu_of hr
    refine ⟨_, pss_cons (ps_set (i := 2) scLBelow.nd rfl (Or.inl rfl) pe_dnewK)
      (pss_cons (ps_for PassesOwn.never rfl (pi_list (pv 0)) (pg_name (i := 3) scLBelow.nd rfl (Or.inl rfl))
        (pss_cons (ps_set (i := 4) scLBelow.nd rfl (Or.inr rfl) (pe_lst (pa_cons (pe_ix ix_list (pv 0) pe_int (fun _ _ => rfl)) (pa_cons (pv 3) pa_nil))))
        (pss_cons (ps_for PassesOwn.never rfl (pi_seq (pv 1)) (pg_tup rfl (pgs_cons (pg_name (i := 5) scLBelow.nd rfl (Or.inl rfl)) (pgs_cons (pg_name (i := 6) scLBelow.nd rfl (Or.inl rfl)) pgs_nil)))
          (pss_one (ps_if (pt_cmpR op_eq (pv 6) (pv 3) (nomark _)) (pss_one (ps_set (i := 4) scLBelow.nd rfl (Or.inr rfl) (pe_op op_cat (pv 4) (pe_dget hu (pv 2) (pv 5) (fun _ _ => rfl))))) pss_nil)))
        (pss_one (ps_dput hu (pv 2) (pv 3) (pe_lc (own := [("_law_one", 7)]) (g := gName 7) (tt := tTest (tOp (rIn K false) (tVar 7) (tVar 4))) (te := tVar 7) rfl scLBelow.nd (pi_list (pv 0)) (blkOk_by (own := [("_law_one", 7)]) (N := NLB) (sc := defScope sLBelow) (by decide +kernel))
          (fun _ _ _ _ _ => pg_name (i := 7) scLBelow.nd rfl (Or.inl rfl)) (fun _ _ _ _ _ => pts_one (pt_cmpR op_in_seq (pv 7) (pv 4) rfl)) (fun _ _ _ _ _ => pv 7)) rfl)))))
      (pss_one (ps_ret (pv 2)))), ?_⟩
    have hlen : ns.length ≤ 8 := N.eight
    -- the dict
    refine fun b nb => ?_
    have e1 : Ex H (upd H b (.dK [])) := Ex.new nb
    refine q_forLn (xs := ns.map V.str) (ev_var rfl) (ex_l e1 ho)
      (fun i σ' H' => (∃ x3 x4 x5 x6 x7 : Option V, σ' = [some (.ref o), some v, some (.ref b), x3, x4, x5, x6, x7]) ∧ But b (upd H b (.dK [])) H' ∧ ∃ ka, H' b = some (.dK ka) ∧ KvL H' ka (ns.take i) (belF ns ps (ns.take i))) ?_ ?_ ?_ ?_
    · intro H1 ex
      exact ⟨⟨_, _, _, _, _, rfl⟩, But.ofEx ex, [], ex _ _ upd_same, .nil⟩
    · rintro i σ' H' _ ⟨_, but, _⟩
      exact ex_l (but.of e1 nb) ho
    · rintro i x σ' H' hx ⟨⟨x3, x4, x5, x6, x7, rfl⟩, but, ka, hka, kv⟩
      have eH : Ex H H' := but.of e1 nb
      rw [List.getElem?_map] at hx
      obtain ⟨l, hl, rfl⟩ : ∃ l, ns[i]? = some l ∧ V.str l = x := by
        cases hq : ns[i]? with
        | none =>
          rw [hq] at hx
          cases hx
        | some l =>
          rw [hq] at hx
          exact ⟨l, rfl, Option.some.inj hx⟩
      have hbl : ∀ s, (belF ns ps (ns.take i) s).length ≤ ns.length := belF_len ns ps _
      generalize hbe : belF ns ps (ns.take i) = bl at kv hbl
      refine q_asgL (el_lst (ea_cons (ev_op (ev_var rfl) ev_c (rv_ixL (ex_l eH ho) (heads N.one))) (ea_cons (ev_var rfl) ea_nil)) (by simp)) fun fp H3 nfp e3 hfp => ?_
      refine q_forQ (K := K) (d := d) (Ex.trans eH e3) gd hsq (ev_var rfl)
        (fun j σ' H'' => ∃ q, (∃ y5 y6 y7 : Option V, σ' = [some (.ref o), some v, some (.ref b), some (.str l), some (.ref q), y5, y6, y7]) ∧ Ex H3 H'' ∧ H'' q = some (.lst ((foundJ ns ps bl l j).map V.str))) ?_ ?_ ?_ ?_
      · intro H4 e4
        refine ⟨fp, ⟨_, _, _, rfl⟩, e4, ?_⟩
        rw [e4 _ _ hfp]
        rfl
      · rintro j σ' H'' ⟨_, _, e4, _⟩
        exact (eH.trans e3).trans e4
      · rintro j x di σ' H'' hd gdi ⟨q, ⟨y5, y6, y7, rfl⟩, e4, hf⟩
        have e13 : Ex H' H'' := e3.trans e4
        rw [hps] at hd
        obtain ⟨p, hp, rfl⟩ := prs_at hd
        have hpm : p ∈ ps := List.mem_of_getElem? hp
        have hj : j < ps.length := (List.getElem?_eq_some_iff.mp hp).1
        cases gdi with
        | @tup t xs _ ht ha =>
          cases ha with
          | cons g1 t1 =>
            cases t1 with
            | cons g2 t2 =>
              cases t2
              cases g1
              cases g2
              refine ⟨t, _, rfl, ht, rfl, _, _, rfl, _, _, rfl, rfl, ?_⟩
              refine s_when (b := decide (p.2 = l)) (et_is (et_test (ev_op (ev_var rfl) (ev_var rfl) (rv_eq rfl))) ?_) (fun hb H5 e5 => ?_) (fun hb H5 e5 => ?_)
              · exact decide_eq_decide.mpr ⟨fun z => V.str.inj z, fun z => by rw [z]⟩
              · have pl : p.2 = l := of_decide_eq_true hb
                have low : p.1 ∈ ns.take i := low_take N.nd PO hpm (by rw [pl]; exact hl)
                obtain ⟨u, hu1, au, rfl, hau⟩ := (kv.ext (e13.trans e5)).some low
                have hbk : H5 b = some (.dK ka) := e5 _ _ (e13 _ _ hka)
                have z1 := foundJ_len (ns := ns) (ps := ps) (bl := bl) (l := l) hbl j (Nat.le_of_lt hj)
                have z2 := hbl p.1
                have z3 : j * ns.length ≤ 10 * 8 := Nat.mul_le_mul (by have := PO.1; omega) hlen
                refine ⟨_, rfl, _, rfl, _, rfl, b, _, rfl, by rw [← hu1]; exact DGet.k (k := .inr p.1) hbk, q, au, _, _, rfl, rfl, e5 _ _ hf, hau, sz_of (by rw [List.length_map, List.length_map]; omega), fun r nr => ⟨r, ⟨_, _, _, rfl⟩, (e4.trans e5).trans (Ex.new nr), ?_⟩⟩
                rw [upd_same, foundJ_yes hp pl, List.map_append]
              · refine ⟨q, ⟨_, _, _, rfl⟩, e4.trans e5, ?_⟩
                rw [foundJ_no hp (of_decide_eq_false hb)]
                exact e5 _ _ hf
      · rintro σ' H4 ⟨fq, ⟨y5, y6, y7, rfl⟩, e4, hf⟩
        rw [hps, List.length_map, foundJ_all] at hf
        have e14 : Ex H' H4 := e3.trans e4
        refine (edl_filt (K := K) (j := 7) (vs := [7]) (fun s => decide (s ∈ foundOf ns ps bl l)) (ev_var rfl) (ex_l (eH.trans e14) ho) (by omega) (fun _ => rfl) (fun _ => rfl) (fun s H5 e5 _ => ?_)) H4 (Ex.refl _) _ fun q xs H5 nq e5 hq gq => ?_
        · exact et_test (ev_inL (K := K) (ev_var rfl) (ed_var rfl (.lst (sq_of (e5 _ _ hf)) (Dds.strs _))))
        · rw [Dds.txts gq] at hq
          have hb5 : H5 b = some (.dK ka) := e5 _ _ (e14 _ _ hka)
          have kv5 := kv.ext (e14.trans e5)
          have nin := nd_take N.nd hl
          refine ⟨_, rfl, _, rfl, b, _, rfl, DPut.k (k := .inr l) hb5 (by rw [kv5.len, List.length_take]; exact Nat.lt_of_le_of_lt (Nat.min_le_left _ _) (sz_lt (by have := (List.getElem?_eq_some_iff.mp hl).1; omega))), ⟨_, _, _, _, _, rfl⟩, ?_, _, upd_same, ?_⟩
          · exact But.upd fun a u na h => e5 a u (e14 a u (but a u na h))
          · rw [take_next hl, belF_snoc, hbe]
            refine KvL.but (p := b) (H := H5) ((But.refl b H5).upd) (fun ys z => by rw [hb5] at z; cases z) (kv5.snoc nin ⟨q, rfl, hq⟩)
    · rintro σ' H' ⟨⟨x3, x4, x5, x6, x7, rfl⟩, but, ka, hka, kv⟩
      rw [List.length_map, List.take_length] at kv
      exact s_ret (v := .ref b) (ev_var rfl) fun H2 e2 => kQ b H2 ((but.of e1 nb).trans e2) nb ⟨ka, e2 _ _ hka, kv.ext e2⟩
end
end K01
set_option maxHeartbeats 8000000
namespace K01
open PySem PySem.Spec PyProof.Rows L2 Evl My LamX
theorem blk2 {N : List Str} {sc sc2 scope : Scope} {own : List (Str × Nat)} (h : blkC N sc2 scope own = true) (e : ∀ y ∈ scope.names, y.2 = .free → sc.names.lookup y.1 = some .cell ∨ sc.names.lookup y.1 = some .free) : BlkOk N sc scope own :=
  ⟨(blkOk_by h).kind, (blkOk_by h).uniq, (blkOk_by h).ix, e, (blkOk_by h).own⟩
theorem firstOf_head (f : Str → Bool) (ws : List Str) : firstOf f ws = (match ws.filter f with
    | [] => .none
    | s :: _ => .str s) := by
  induction ws with
  | nil => rfl
  | cons w ws ih =>
    unfold firstOf at ih ⊢
    rw [List.find?_cons, List.filter_cons]
    cases h : f w
    · exact ih
    · rfl
theorem all_len (g : Str → Bool) (ws : List Str) : decide ((ws.filter g).length = ws.length) = ws.all g := by
  rw [Bool.eq_iff_iff, decide_eq_true_eq, List.all_eq_true]
  constructor
  · intro h
    exact List.filter_eq_self.mp (List.filter_sublist.eq_of_length h)
  · intro h
    rw [List.filter_eq_self.mpr h]
def spMost (K : PySem.W.Frag) (F : (Str → List Str) → Str → Str → Bool) : Sp := fun vs H Q _ => ∃ (a b : Addr) (cm ns : List Str) (bl : Str → List Str), vs = [.ref a, .ref b] ∧ SqL K H a (cm.map V.str) ∧ DcAt H b ns bl ∧ (∀ x ∈ cm, x ∈ ns ∧ wordD (.str x) = true) ∧ cm.length ≤ 8 ∧
  ∀ u H', Ex H H' → Dd K H' u (firstOf (fun l => cm.all fun w => F bl l w) cm) → Q u H'
section
variable {P : Program} {w : World} {K : PySem.W.Frag} {mg : Str → Option Value} {base : Heap} {f : Addr} {fd : FuncData}
def coMost : Scope := match (defBody sMost).getD 0 (.Pass ⟨0, 0, 0, 0⟩) with
  | .Assign _ (.ListComp _ _ sc _) _ => sc
  | _ => defScope sMost
def ciMost : Scope := match (defBody sMost).getD 0 (.Pass ⟨0, 0, 0, 0⟩) with
  | .Assign _ (.ListComp _ [⟨_, _, [.Compare (.Call _ [.ListComp _ _ sc _] _ _) _ _ _], _⟩] _ _) _ => sc
  | _ => defScope sMost
def NMost : List Str := ["_law_both", "_law_below_here", "_law_found", "_law_low", "_law_one"]
theorem scMost : FnScope NMost ["_law_both", "_law_below_here"] (defScope sMost) := ⟨rfl, rfl, rfl, by decide +kernel, rfl, by decide +kernel, by decide +kernel⟩
theorem ok_lmost (F : Fun K "_law_most" "_law_most" sMost f fd) (T : Txt mg) : FnOk P w K mg base CX0 1 f fd ["_law_both", "_law_below_here"] (spMost K fun bl l w => decide (w ∈ bl l)) := by
  refine F.ok scMost (fun vs H Q E h => ?_) (fun cdv A outer s H vs Q E hr h => ?_)
  · obtain ⟨a, b, cm, ns, bl, rfl, _⟩ := h
    rfl
  · obtain ⟨a, b, cm, ns, bl, rfl, ha, hd, hc, c8, kQ⟩ := h
    have hu := hu_of hr
    refine ⟨_, pss_cons (ps_setLc (i := 2) (own := [("_law_low", 3)]) (g := gName 3) (te := tVar 3)
        (tt := tTest (tOp rEq (tCB (rLenD K) (tCons (tLc (iList K (tVar 0)) (gName 4) (tTest (tOp (rIn K false) (tVar 4) (tDGet (tVar 1) (tVar 3)))) (tVar 4) [4]) tNil)) (tCB (rLenD K) (tCons (tVar 0) tNil)))) rfl scMost.nd rfl rfl (sw_true rfl rfl rfl (by decide +kernel)) (pi_list (pv 0)) (blkOk_by (own := [("_law_low", 3)]) (N := NMost) (sc := defScope sMost) (by decide +kernel))
          (fun _ _ _ _ _ => pg_name (i := 3) scMost.nd rfl (Or.inr rfl)) (fun _ _ _ _ _ => pts_one (pt_cmpR op_eq (pe_callB call_len (by rfl) T.len (by decide +kernel) (pa_cons
            (pe_lc (own := [("_law_one", 4)]) (g := gName 4) (tt := tTest (tOp (rIn K false) (tVar 4) (tDGet (tVar 1) (tVar 3)))) (te := tVar 4) rfl scMost.nd (pi_list (pv 0)) (by exact blk2 (own := [("_law_one", 4)]) (N := NMost) (sc2 := coMost) (scope := ciMost) (by decide +kernel) (fun y hy hf => by
                rcases List.mem_cons.mp hy with rfl | hy
                · cases hf
                rcases List.mem_cons.mp hy with rfl | hy
                · cases hf
                rcases List.mem_cons.mp hy with rfl | hy
                · first | exact Or.inl rfl | exact Or.inr rfl
                rw [List.mem_singleton.mp hy]
                first | exact Or.inl rfl | exact Or.inr rfl))
              (fun _ _ _ _ _ => pg_name (i := 4) scMost.nd rfl (Or.inl rfl)) (fun _ _ _ _ _ => pts_one (pt_cmpR op_in_seq (pv 4) (pe_dget hu (pv 1) (pv 3) (fun _ _ => rfl)) rfl)) (fun _ _ _ _ _ => pv 4)) pa_nil)) (pe_callB call_len (by rfl) T.len (by decide +kernel) (pa_cons (pv 0) pa_nil)) (nomark _))) (fun _ _ _ _ _ => pv 3))
      (pss_one (ps_ret (pe_ifExp (pt_cmpR (op_neD hr.units) (pv 2) (pe_lst pa_nil) (nomark _)) (pe_ix ix_list (pv 2) pe_int (fun _ _ => rfl)) pe_non))), ?_⟩
    refine q_asgDL (K := K) (edl_filt (K := K) (j := 3) (vs := [3]) (fun l => cm.all fun w => decide (w ∈ bl l)) (ev_var rfl) ha (by omega) (fun _ => rfl) (fun _ => rfl) fun l H1 e1 m => ?_) fun p xs H1 np e1 hp gp => ?_
    · have hd1 := hd.ext e1
      have inner : EvDL K (tLc (iList K (tVar 0)) (gName 4) (tTest (tOp (rIn K false) (tVar 4) (tDGet (tVar 1) (tVar 3)))) (tVar 4) [4]) ([some (.ref a), some (.ref b), none, some (.str l), none] : L2.St) H1 (txts (cm.filter fun w => decide (w ∈ bl l))) :=
        edl_filt (K := K) (j := 4) (vs := [4]) (fun w => decide (w ∈ bl l)) (ev_var rfl) (ex_l e1 ha) (by omega) (fun _ => rfl) (fun _ => rfl) fun s H2 e2 ms => et_test (ev_inL (ev_var rfl) (ed_dget (ev_var rfl) (hd1.ext e2) (ev_var rfl) (hc l m).1))
      refine et_is (et_test (ev_op (ed_lenNL inner) (ed_lenL (K := K) (ev_var rfl) (ex_l e1 ha)) (rv_eq rfl))) ?_
      rw [List.length_map, List.length_map, ← all_len]
      exact decide_eq_decide.mpr ⟨fun z => by injection z with z; omega, fun z => by rw [z]⟩
    · have xe := Dds.txts gp
      subst xe
      have hw : ∀ s ∈ cm.filter (fun l => cm.all fun w => decide (w ∈ bl l)), wordD (.str s) = true := fun s m => (hc s (List.mem_filter.mp m).1).2
      have fl := firstOf_head (fun l => cm.all fun w => decide (w ∈ bl l)) cm
      have gl : EvD K (tVar 2) ([some (.ref a), some (.ref b), some (.ref p), none, none] : L2.St) H1 (.list (txts (cm.filter fun l => cm.all fun w => decide (w ∈ bl l)))) := ed_var rfl (.lst (sq_of hp) gp)
      have ne : EvT (tTest (tOp (rNeD K) (tVar 2) (tLst tNil))) ([some (.ref a), some (.ref b), some (.ref p), none, none] : L2.St) H1 (!decide (cm.filter (fun l => cm.all fun w => decide (w ∈ bl l)) = [])) :=
        et_is (et_test (ed_neD gl (ed_ofL (edl_lst eds_nil (by simp))) (noDict_txts _) rfl (shapedL hw) (shapedL (ws := []) fun s m => nomatch m))) (by rw [show (PyData.list []) = .list (txts []) from rfl, eqv_txts])
      refine s_retD (K := K) (d := firstOf (fun l => cm.all fun w => decide (w ∈ bl l)) cm) (ed_if ne (fun hb H2 e2 => ?_) (fun hb H2 e2 => ?_)) fun u H2 e2 gu => kQ u H2 (e1.trans e2) gu
      · rw [fl]
        have hp2 := e2 _ _ hp
        cases hf : cm.filter (fun l => cm.all fun w => decide (w ∈ bl l)) with
        | nil =>
          rw [hf] at hb
          cases hb
        | cons s r =>
          rw [hf] at hp2
          exact ed_str (ev_op (ev_var rfl) ev_c (rv_ixL (sq_of hp2) (atI_nat (xs := (s :: r).map V.str) (j := 0) rfl)))
      · rw [fl]
        cases hf : cm.filter (fun l => cm.all fun w => decide (w ∈ bl l)) with
        | nil => exact ed_non ev_c
        | cons s r =>
          rw [hf] at hb
          cases hb
def coLeast : Scope := match (defBody sLeast).getD 0 (.Pass ⟨0, 0, 0, 0⟩) with
  | .Assign _ (.ListComp _ _ sc _) _ => sc
  | _ => defScope sLeast
def ciLeast : Scope := match (defBody sLeast).getD 0 (.Pass ⟨0, 0, 0, 0⟩) with
  | .Assign _ (.ListComp _ [⟨_, _, [.Compare (.Call _ [.ListComp _ _ sc _] _ _) _ _ _], _⟩] _ _) _ => sc
  | _ => defScope sLeast
def NLeast : List Str := ["_law_more", "_law_below_here", "_law_found", "_law_top", "_law_one"]
theorem scLLeast : FnScope NLeast ["_law_more", "_law_below_here"] (defScope sLeast) := ⟨rfl, rfl, rfl, by decide +kernel, rfl, by decide +kernel, by decide +kernel⟩
theorem ok_lleast (F : Fun K "_law_least" "_law_least" sLeast f fd) (T : Txt mg) : FnOk P w K mg base CX0 1 f fd ["_law_more", "_law_below_here"] (spMost K fun bl l w => decide (l ∈ bl w)) := by
  refine F.ok scLLeast (fun vs H Q E h => ?_) (fun cdv A outer s H vs Q E hr h => ?_)
  · obtain ⟨a, b, cm, ns, bl, rfl, _⟩ := h
    rfl
  · obtain ⟨a, b, cm, ns, bl, rfl, ha, hd, hc, c8, kQ⟩ := h
    have hu := hu_of hr
    refine ⟨_, pss_cons (ps_setLc (i := 2) (own := [("_law_top", 3)]) (g := gName 3) (te := tVar 3)
        (tt := tTest (tOp rEq (tCB (rLenD K) (tCons (tLc (iList K (tVar 0)) (gName 4) (tTest (tOp (rIn K false) (tVar 3) (tDGet (tVar 1) (tVar 4)))) (tVar 4) [4]) tNil)) (tCB (rLenD K) (tCons (tVar 0) tNil)))) rfl scLLeast.nd rfl rfl (sw_true rfl rfl rfl (by decide +kernel)) (pi_list (pv 0)) (blkOk_by (own := [("_law_top", 3)]) (N := NLeast) (sc := defScope sLeast) (by decide +kernel))
          (fun _ _ _ _ _ => pg_name (i := 3) scLLeast.nd rfl (Or.inr rfl)) (fun _ _ _ _ _ => pts_one (pt_cmpR op_eq (pe_callB call_len (by rfl) T.len (by decide +kernel) (pa_cons
            (pe_lc (own := [("_law_one", 4)]) (g := gName 4) (tt := tTest (tOp (rIn K false) (tVar 3) (tDGet (tVar 1) (tVar 4)))) (te := tVar 4) rfl scLLeast.nd (pi_list (pv 0)) (by exact blk2 (own := [("_law_one", 4)]) (N := NLeast) (sc2 := coLeast) (scope := ciLeast) (by decide +kernel) (fun y hy hf => by
                rcases List.mem_cons.mp hy with rfl | hy
                · cases hf
                rcases List.mem_cons.mp hy with rfl | hy
                · cases hf
                rcases List.mem_cons.mp hy with rfl | hy
                · first | exact Or.inl rfl | exact Or.inr rfl
                rw [List.mem_singleton.mp hy]
                first | exact Or.inl rfl | exact Or.inr rfl))
              (fun _ _ _ _ _ => pg_name (i := 4) scLLeast.nd rfl (Or.inl rfl)) (fun _ _ _ _ _ => pts_one (pt_cmpR op_in_seq (pv 3) (pe_dget hu (pv 1) (pv 4) (fun _ _ => rfl)) rfl)) (fun _ _ _ _ _ => pv 4)) pa_nil)) (pe_callB call_len (by rfl) T.len (by decide +kernel) (pa_cons (pv 0) pa_nil)) (nomark _))) (fun _ _ _ _ _ => pv 3))
      (pss_one (ps_ret (pe_ifExp (pt_cmpR (op_neD hr.units) (pv 2) (pe_lst pa_nil) (nomark _)) (pe_ix ix_list (pv 2) pe_int (fun _ _ => rfl)) pe_non))), ?_⟩
    refine q_asgDL (K := K) (edl_filt (K := K) (j := 3) (vs := [3]) (fun l => cm.all fun w => decide (l ∈ bl w)) (ev_var rfl) ha (by omega) (fun _ => rfl) (fun _ => rfl) fun l H1 e1 m => ?_) fun p xs H1 np e1 hp gp => ?_
    · have hd1 := hd.ext e1
      have inner : EvDL K (tLc (iList K (tVar 0)) (gName 4) (tTest (tOp (rIn K false) (tVar 3) (tDGet (tVar 1) (tVar 4)))) (tVar 4) [4]) ([some (.ref a), some (.ref b), none, some (.str l), none] : L2.St) H1 (txts (cm.filter fun w => decide (l ∈ bl w))) :=
        edl_filt (K := K) (j := 4) (vs := [4]) (fun w => decide (l ∈ bl w)) (ev_var rfl) (ex_l e1 ha) (by omega) (fun _ => rfl) (fun _ => rfl) fun s H2 e2 ms => et_test (ev_inL (ev_var rfl) (ed_dget (ev_var rfl) (hd1.ext e2) (ev_var rfl) (hc s ms).1))
      refine et_is (et_test (ev_op (ed_lenNL inner) (ed_lenL (K := K) (ev_var rfl) (ex_l e1 ha)) (rv_eq rfl))) ?_
      rw [List.length_map, List.length_map, ← all_len]
      exact decide_eq_decide.mpr ⟨fun z => by injection z with z; omega, fun z => by rw [z]⟩
    · have xe := Dds.txts gp
      subst xe
      have hw : ∀ s ∈ cm.filter (fun l => cm.all fun w => decide (l ∈ bl w)), wordD (.str s) = true := fun s m => (hc s (List.mem_filter.mp m).1).2
      have fl := firstOf_head (fun l => cm.all fun w => decide (l ∈ bl w)) cm
      have gl : EvD K (tVar 2) ([some (.ref a), some (.ref b), some (.ref p), none, none] : L2.St) H1 (.list (txts (cm.filter fun l => cm.all fun w => decide (l ∈ bl w)))) := ed_var rfl (.lst (sq_of hp) gp)
      have ne : EvT (tTest (tOp (rNeD K) (tVar 2) (tLst tNil))) ([some (.ref a), some (.ref b), some (.ref p), none, none] : L2.St) H1 (!decide (cm.filter (fun l => cm.all fun w => decide (l ∈ bl w)) = [])) :=
        et_is (et_test (ed_neD gl (ed_ofL (edl_lst eds_nil (by simp))) (noDict_txts _) rfl (shapedL hw) (shapedL (ws := []) fun s m => nomatch m))) (by rw [show (PyData.list []) = .list (txts []) from rfl, eqv_txts])
      refine s_retD (K := K) (d := firstOf (fun l => cm.all fun w => decide (l ∈ bl w)) cm) (ed_if ne (fun hb H2 e2 => ?_) (fun hb H2 e2 => ?_)) fun u H2 e2 gu => kQ u H2 (e1.trans e2) gu
      · rw [fl]
        have hp2 := e2 _ _ hp
        cases hf : cm.filter (fun l => cm.all fun w => decide (l ∈ bl w)) with
        | nil =>
          rw [hf] at hb
          cases hb
        | cons s r =>
          rw [hf] at hp2
          exact ed_str (ev_op (ev_var rfl) ev_c (rv_ixL (sq_of hp2) (atI_nat (xs := (s :: r).map V.str) (j := 0) rfl)))
      · rw [fl]
        cases hf : cm.filter (fun l => cm.all fun w => decide (l ∈ bl w)) with
        | nil => exact ed_non ev_c
        | cons s r =>
          rw [hf] at hb
          cases hb
end
end K01
set_option maxHeartbeats 8000000
namespace My
open PySem PySem.Spec PyProof.Rows L2
/-- a def asked where no guard runs, as a constant -/
structure DfG (P : Program) (w : World) (K : PySem.W.Frag) (mg : Str → Option Value) (base : Heap) (x : Str) (ps : List Str) (k : Nat) (sp : Sp) : Prop where
  ex : ∃ (f : Addr) (fd : FuncData), mg x = some (.ref f) ∧ PySem.W.keepIn K (.ref f) = true ∧ FnG P w K mg base CX0 k f fd ps sp ∧ Binds K fd ps []
theorem pe_dfG {X : Cx} {x : Str} {ps : List Str} {k : Nat} {sp : Sp} {e : Expr} {es : List Expr} {t : TA} {p pos : Pos} (D : DfG X.prog X.w X.K X.mg X.base x ps k sp) (hgd : X.A.guards = some []) (hr : Room k X.A) (hg : Gl X x) (ha : PA X (e :: es) t)
    (hdb : (x == ("__debug__" : Str)) = false := by decide) (he : starEach (e :: es) X.env = (false, eval e X.env) :: starEach es X.env := by rfl) (hpl : (backTo pos (starEach es X.env)).any (·.1) = false := by rfl) :
    PE X (.Call (.Name x p) (e :: es) [] pos) (tCall sp [] E0 t) := by
  obtain ⟨f, fd, hm, hk, F, b⟩ := D.ex
  refine ⟨fun pins s σ H Q I h => ?_⟩
  refine wpAny_Call_Name_kw (ld_glob I hg hm ?_ hdb)
  refine PySem.W.callWith_K (h₀ := X.base) I.ok.mod.kin hk (thn (ha.run pos pins s σ H _ I h) fun us s1 ⟨vs, H1, I1, r, q⟩ => ⟨I1.kIn, ?_⟩) he hpl
  have hl : us.length = ps.length := by
    have z := F.len _ _ _ _ q
    rw [List.append_nil] at z
    rw [← r.length]
    exact z
  refine wpAny_call (codeAny_mono (F.run X.A X.stack s1 H1 ⟨us, []⟩ us vs Q E0 hgd hr I1.env0 (by simpa using b s1 us I1.kIn (by simpa using hl)) r (by simpa using q)) fun r s' hq => ?_)
  match r, hq with
  | .error e, hq => exact (show False from hq).elim
  | .ok (.ret u), hq => exact I1.after hq
  | .ok .next, hq => exact hq.elim
  | .ok .brk, hq => exact hq.elim
  | .ok .cont, hq => exact hq.elim
end My
namespace K01
open PySem PySem.Spec PyProof.Rows L2 Evl My LamX
theorem noWay {X : Cx} : Passes (L2.CX X.prog X.w) X (fun _ _ _ => False) := L2.passes_call L2.takes0 fun _ _ _ _ z => z
abbrev sRight : Stmt := top 22
structure MP (P : Program) (w : World) (K : PySem.W.Frag) (mg : Str → Option Value) (base : Heap) (C : Addr) (m : Str) (k : Nat) (sp : Sp) : Prop where
  ex : ∃ (p g : Addr) (fd : FuncData), PropOf K C m p g ∧ FnOk P w K mg base CX0 k g fd ["self"] sp ∧ Binds K fd ["self"] []
structure ML (P : Program) (w : World) (K : PySem.W.Frag) (mg : Str → Option Value) (base : Heap) (C : Addr) (k : Nat) (sp : Sp) : Prop where
  ex : ∃ (g : Addr) (fd : FuncData), PySem.W.findIn K (.ref C) "__len__" = some (some (.ref g)) ∧ PySem.W.typeIn K (.ref g) = some (.type "function") ∧ FnOk P w K mg base CX0 k g fd ["self"] sp ∧ Binds K fd ["self"] []
theorem pe_mp {X : Cx} {C : Addr} {m : Str} {k : Nat} {sp : Sp} {e : Expr} {pos : Pos} {ta : TE} (D : MP X.prog X.w X.K X.mg X.base C m k sp) (c : Cls X.K C) (hr : Room (k + 1) X.A) (he : PE X e ta) (hb : attributeBase e m X.env (eval e X.env) = eval e X.env := by rfl) :
    PE X (.Attribute e m pos) (tProp C sp [] E0 ta) := by
  obtain ⟨p, g, fd, hp, F, b⟩ := D.ex
  exact pe_prop he c hp F hr b .nil (fun _ _ _ _ _ _ _ h => h.elim) hb
theorem call_ml {X : Cx} {C : Addr} {k : Nat} {sp : Sp} (D : ML X.prog X.w X.K X.mg X.base C k sp) (hr : Room (k + 1) X.A) : CallR X (.builtin "len") (rLenI C sp E0) := by
  obtain ⟨g, fd, h1, h2, F, b⟩ := D.ex
  exact call_lenI h1 h2 F b hr (fun _ _ _ _ _ _ _ h => h.elim)
section
variable {K : PySem.W.Frag} {C L D : Addr} {σ : L2.St} {H : Hp} {ns : List Str} {bl : Str → List Str} {te ta tb tc : TE} {d e : PyData} {m : Str} {a b : Str} {E : XK}
theorem lv_ins (lv : LvAt C H L ns bl) : ∃ dx fs, H L = some (.ins C dx fs) ∧ ∀ m : Str, (∀ x y : V, List.lookup m [(("order" : Str), x), ("below", y)] = none) → fs.lookup m = none := by
  obtain ⟨dx, o, b, h1, _⟩ := lv
  exact ⟨dx, _, h1, fun m h => h _ _⟩
theorem hasD_of {ns : List Str} {s : Str} (h : s ∈ ns) : hasD ns (.str s) = true := by
  show (true && decide (s ∈ ns)) = true
  rw [decide_eq_true h]
  rfl
theorem ed_m0 {F : List Str → (Str → List Str) → PyData} (hm : ∀ x y : V, List.lookup m [(("order" : Str), x), ("below", y)] = none) (lv : LvAt C H L ns bl) (ok : LvOk ns bl) (ha : Ev ta σ H (.ref L)) : EvD K (tMeth C m (sp0 K C F) [] E ta tNil) σ H (F ns bl) := fun H1 x Q q => ha H1 x _ fun H2 e2 => by
  have lv2 := lv.ext (x.trans e2)
  obtain ⟨dx, fs, h1, h2⟩ := lv_ins lv2
  exact ⟨L, dx, fs, rfl, h1, h2 m hm, L, ns, bl, rfl, lv2, ok, fun u H3 e3 g => q u H3 (e2.trans e3) g⟩
theorem ed_m1 {F : List Str → (Str → List Str) → Str → PyData} (hm : ∀ x y : V, List.lookup m [(("order" : Str), x), ("below", y)] = none) (lv : LvAt C H L ns bl) (ok : LvOk ns bl) (ha : Ev ta σ H (.ref L)) (hb : Ev tb σ H (.str a)) (hs : a ∈ ns) : EvD K (tMeth C m (sp1 K C D F) [] E ta (tCons tb tNil)) σ H (F ns bl a) := fun H1 x Q q => ha H1 x _ fun H2 e2 => by
  have lv2 := lv.ext (x.trans e2)
  obtain ⟨dx, fs, h1, h2⟩ := lv_ins lv2
  refine ⟨L, dx, fs, rfl, h1, h2 m hm, hb H2 (x.trans e2) _ fun H3 e3 => ⟨L, .str a, .str a, ns, bl, rfl, lv2.ext e3, ok, .str a, fun _ u H4 e4 g => q u H4 ((e2.trans e3).trans e4) g, fun z => ?_⟩⟩
  rw [hasD_of hs] at z
  cases z
theorem ed_m2 {F : List Str → (Str → List Str) → Str → Str → PyData} (hm : ∀ x y : V, List.lookup m [(("order" : Str), x), ("below", y)] = none) (lv : LvAt C H L ns bl) (ok : LvOk ns bl) (ha : Ev ta σ H (.ref L)) (hb : Ev tb σ H (.str a)) (hc : Ev tc σ H (.str b)) (hs : a ∈ ns) (hs2 : b ∈ ns) : EvD K (tMeth C m (sp2 K C D F) [] E ta (tCons tb (tCons tc tNil))) σ H (F ns bl a b) := fun H1 x Q q => ha H1 x _ fun H2 e2 => by
  have lv2 := lv.ext (x.trans e2)
  obtain ⟨dx, fs, h1, h2⟩ := lv_ins lv2
  refine ⟨L, dx, fs, rfl, h1, h2 m hm, hb H2 (x.trans e2) _ fun H3 e3 => hc H3 ((x.trans e2).trans e3) _ fun H4 e4 => ⟨L, .str a, .str b, .str a, .str b, ns, bl, rfl, (lv2.ext e3).ext e4, ok, .str a, .str b, fun _ _ u H5 e5 g => q u H5 (((e2.trans e3).trans e4).trans e5) g, fun z => ?_, fun _ z => ?_⟩⟩
  · rw [hasD_of hs] at z
    cases z
  · rw [hasD_of hs2] at z
    cases z
theorem ev_reprD (h : EvD K te σ H d) (nd : d.hasDict = false ∨ d = .dict []) (sh : d.showable = true) (sz : d.shown.length ≤ 100000) (dp : d.depth ≤ 60) : Ev (tCB (rRepr K) (tCons te tNil)) σ H (.str d.shown) := fun H1 e Q q =>
  h H1 e _ fun v H2 e2 g => ⟨v, d, rfl, .inr ⟨g, nd⟩, sh, sz_of sz, Nat.le_trans dp (by decide), q H2 e2⟩
theorem ev_reprB {b : Bool} (h : EvD K te σ H (.bool b)) : Ev (tCB (rRepr K) (tCons te tNil)) σ H (.str (PyData.bool b).shown) :=
  ev_reprD h (.inl (by simp only [PyData.hasDict])) (by simp only [PyData.showable]) (by cases b <;> decide +kernel) (by cases b <;> decide)
/-- x != y of one text or None -/
theorem ev_neSc (ha : EvD K ta σ H d) (hb : EvD K tb σ H d) (hd : d = .none ∨ ∃ s, d = .str s) : Ev (tOp rNe ta tb) σ H (.bl false) := by
  rcases hd with rfl | ⟨s, rfl⟩
  · exact ev_is (ev_op ha.non hb.non (rv_ne rfl)) (by simp)
  · exact ev_is (ev_op ha.str hb.str (rv_ne rfl)) (by simp)
theorem firstOf_sc (f : Str → Bool) (ws : List Str) : firstOf f ws = .none ∨ ∃ s, firstOf f ws = .str s := by
  unfold firstOf
  cases ws.find? f with
  | none => exact .inl rfl
  | some s => exact .inr ⟨s, rfl⟩
end
def spRt (K : PySem.W.Frag) (C : Addr) : Sp := fun vs H Q _ => ∃ (L a b : Addr) (ns : List Str) (bl : Str → List Str), vs = [.ref L, .ref a, .ref b] ∧ LvAt C H L ns bl ∧ LvOk ns bl ∧ SqL K H a (ns.map V.str) ∧ DcAt H b ns bl ∧ ∀ H', Ex H H' → Q (.bl true) H'
def NR : List Str := ["_law_levels", "_law_names", "_law_below_here", "_law_one", "_law_ups", "_law_other", "_law_both", "_law_more", "_law_name"]
/-- the class and its defs, for the law -/
structure Lms (P : Program) (w : World) (K : PySem.W.Frag) (mg : Str → Option Value) (base : Heap) (C D : Addr) : Prop where
  c : LvC K C
  nam : MD P w K mg base C "names" ["self"] 1 (sp0 K C fun ns _ => .list (txts ns))
  least : MP P w K mg base C "least" 1 (sp0 K C fun ns _ => .str (ns.headD ""))
  len : ML P w K mg base C 1 (sp0 K C fun ns _ => .int (ns.length : Nat))
  check : MX P w K mg base C "check" ["self", "level"] 3 (sp1 K C D fun _ _ _ => .none)
  downs : MX P w K mg base C "downs" ["self", "level"] 4 (sp1 K C D fun _ bl a => .list (txts (bl a)))
  ups : MX P w K mg base C "ups" ["self", "level"] 4 (sp1 K C D fun ns bl a => .list (txts (ns.filter fun w => decide (a ∈ bl w))))
  leq : MX P w K mg base C "leq" ["self", "one", "other"] 4 (sp2 K C D fun _ bl a b => .bool (decide (a ∈ bl b)))
  above : MX P w K mg base C "above" ["self", "one", "other"] 4 (sp2 K C D fun _ bl a b => .bool (!decide (a = b) && decide (b ∈ bl a)))
  meet : MX P w K mg base C "meet" ["self", "one", "other"] 4 (sp2 K C D meetF)
  join : MX P w K mg base C "join" ["self", "one", "other"] 4 (sp2 K C D joinF)
section
variable {P : Program} {w : World} {K : PySem.W.Frag} {mg : Str → Option Value} {base : Heap} {f C D : Addr} {fd : FuncData}
theorem scRight : FnScope NR ["_law_levels", "_law_names", "_law_below_here"] (defScope sRight) := ⟨rfl, rfl, rfl, by decide +kernel, rfl, by decide +kernel, by decide +kernel⟩
theorem ok_rt (F : Fun K "_law_right" "_law_right" sRight f fd) (T : Txt mg) (M : Lms P w K mg base C D) (MO : Df P w K mg base "_law_most" ["_law_both", "_law_below_here"] 1 (spMost K fun bl l w => decide (w ∈ bl l))) (LE : Df P w K mg base "_law_least" ["_law_more", "_law_below_here"] 1 (spMost K fun bl l w => decide (l ∈ bl w))) :
    FnG P w K mg base CX0 5 f fd ["_law_levels", "_law_names", "_law_below_here"] (spRt K C) := by
  refine FnG.byBody F scRight (fun vs H Q E h => ?_) (fun cdv A outer s H vs Q E hg hr h => ?_)
  · obtain ⟨L, a, b, ns, bl, rfl, _⟩ := h
    rfl
  · obtain ⟨L, a, b, ns, bl, rfl, lv, ok, ha, hd, kQ⟩ := h
    have hr1 : Room 1 _ := hr.mono (by decide)
    have hr2 : Room 2 _ := hr.mono (by decide)
    have hu := hu_of hr1
    have hun : (A.deeper (envOfC "_law_right" (defScope sRight) s.heap.objs.size f cdv)).units + 200 < cLine := by
      have := hr.un
      omega
    have c := M.c
    refine ⟨_, PSs.nox (pss_cons (ps_for PassesOwn.never rfl (pi_list (pv 1)) (pg_name (i := 3) scRight.nd rfl (Or.inr rfl))
        (pss_cons (ps_setLc (i := 4) (own := [("_law_name", 8)]) (g := gName 8) (te := tVar 8) (tt := tTest (tOp (rIn K false) (tVar 3) (tDGet (tVar 2) (tVar 8)))) rfl scRight.nd rfl rfl (sw_true rfl rfl rfl (by decide +kernel)) (pi_list (pv 1)) (blkOk_by (own := [("_law_name", 8)]) (N := NR) (sc := defScope sRight) (by decide +kernel))
            (fun _ _ _ _ _ => pg_name (i := 8) scRight.nd rfl (Or.inl rfl)) (fun _ _ _ _ _ => pts_one (pt_cmpR op_in_seq (pv 3) (pe_dget hu (pv 2) (pv 8) (fun _ _ => rfl)) rfl)) (fun _ _ _ _ _ => pv 8))
        (pss_cons (ps_if (PW.pt (pw_or (pt_cmpR (op_neD hr.units) (pe_mx M.downs c.cl (hr.mono (by decide)) noWay (pv 0) (pa_cons (pv 3) pa_nil)) (pe_dget hu (pv 2) (pv 3) (fun _ _ => rfl)) (nomark _)) (pw_or1 (pt_cmpR (op_neD hr.units) (pe_mx M.ups c.cl (hr.mono (by decide)) noWay (pv 0) (pa_cons (pv 3) pa_nil)) (pv 4) (nomark _))))) (pss_one (ps_ret pe_bl)) pss_nil)
        (pss_one (ps_for PassesOwn.never rfl (pi_list (pv 1)) (pg_name (i := 5) scRight.nd rfl (Or.inr rfl))
          (pss_cons (ps_if (pt_cmpR op_ne (pe_callB (call_reprU hg hun) (by rfl) T.rep (by decide +kernel) (pa_cons (pe_mx M.leq c.cl (hr.mono (by decide)) noWay (pv 0) (pa_cons (pv 3) (pa_cons (pv 5) pa_nil))) pa_nil)) (pe_callB (call_reprU hg hun) (by rfl) T.rep (by decide +kernel) (pa_cons (pe_cmpR op_in_seq (pv 3) (pe_dget hu (pv 2) (pv 5) (fun _ _ => rfl)) rfl) pa_nil)) (nomark _)) (pss_one (ps_ret pe_bl)) pss_nil)
          (pss_cons (ps_if (pt_cmpR op_ne (pe_callB (call_reprU hg hun) (by rfl) T.rep (by decide +kernel) (pa_cons (pe_mx M.above c.cl (hr.mono (by decide)) noWay (pv 0) (pa_cons (pv 3) (pa_cons (pv 5) pa_nil))) pa_nil)) (pe_callB (call_reprU hg hun) (by rfl) T.rep (by decide +kernel) (pa_cons (pe_and (pe_cmpR op_ne (pv 3) (pv 5) (nomark _)) (pe_one (pe_cmpR op_in_seq (pv 5) (pe_dget hu (pv 2) (pv 3) (fun _ _ => rfl)) rfl))) pa_nil)) (nomark _)) (pss_one (ps_ret pe_bl)) pss_nil)
          (pss_cons (ps_setLc (i := 6) (own := [("_law_name", 8)]) (g := gName 8) (te := tVar 8) (tt := tAnd (tTest (tOp (rIn K false) (tVar 8) (tDGet (tVar 2) (tVar 3)))) (tTest (tOp (rIn K false) (tVar 8) (tDGet (tVar 2) (tVar 5))))) rfl scRight.nd rfl rfl (sw_true rfl rfl rfl (by decide +kernel)) (pi_list (pv 1)) (blkOk_by (own := [("_law_name", 8)]) (N := NR) (sc := defScope sRight) (by decide +kernel))
            (fun _ _ _ _ _ => pg_name (i := 8) scRight.nd rfl (Or.inl rfl)) (fun _ _ _ _ _ => pts_one (PW.pt (pw_and (pt_cmpR op_in_seq (pv 8) (pe_dget hu (pv 2) (pv 3) (fun _ _ => rfl)) rfl) (pw_and1 (pt_cmpR op_in_seq (pv 8) (pe_dget hu (pv 2) (pv 5) (fun _ _ => rfl)) rfl))))) (fun _ _ _ _ _ => pv 8))
          (pss_cons (ps_setLc (i := 7) (own := [("_law_name", 8)]) (g := gName 8) (te := tVar 8) (tt := tAnd (tTest (tOp (rIn K false) (tVar 3) (tDGet (tVar 2) (tVar 8)))) (tTest (tOp (rIn K false) (tVar 5) (tDGet (tVar 2) (tVar 8))))) rfl scRight.nd rfl rfl (sw_true rfl rfl rfl (by decide +kernel)) (pi_list (pv 1)) (blkOk_by (own := [("_law_name", 8)]) (N := NR) (sc := defScope sRight) (by decide +kernel))
            (fun _ _ _ _ _ => pg_name (i := 8) scRight.nd rfl (Or.inl rfl)) (fun _ _ _ _ _ => pts_one (PW.pt (pw_and (pt_cmpR op_in_seq (pv 3) (pe_dget hu (pv 2) (pv 8) (fun _ _ => rfl)) rfl) (pw_and1 (pt_cmpR op_in_seq (pv 5) (pe_dget hu (pv 2) (pv 8) (fun _ _ => rfl)) rfl))))) (fun _ _ _ _ _ => pv 8))
          (pss_one (ps_if (PW.pt (pw_or (pt_cmpR op_ne (pe_mx M.meet c.cl (hr.mono (by decide)) noWay (pv 0) (pa_cons (pv 3) (pa_cons (pv 5) pa_nil))) (pe_df MO hr1 rfl (pa_cons (pv 6) (pa_cons (pv 2) pa_nil))) (nomark _)) (pw_or1 (pt_cmpR op_ne (pe_mx M.join c.cl (hr.mono (by decide)) noWay (pv 0) (pa_cons (pv 3) (pa_cons (pv 5) pa_nil))) (pe_df LE hr1 rfl (pa_cons (pv 7) (pa_cons (pv 2) pa_nil))) (nomark _))))) (pss_one (ps_ret pe_bl)) pss_nil)))))))))))
      (pss_one (ps_ret (pe_and (pe_cmpR (op_eqD hr.units) (pe_md0 M.nam c.cl hr1 (pv 0)) (pv 1) (nomark _)) (pe_and (pe_cmpR op_eq (pe_mp M.least c.cl hr2 (pv 0)) (pe_ix ix_list (pv 1) pe_int (fun _ _ => rfl)) (nomark _)) (pe_one (pe_cmpR op_eq (pe_callB (call_ml M.len hr2) (by rfl) T.len (by decide +kernel) (pa_cons (pv 0) pa_nil)) (pe_callB call_len (by rfl) T.len (by decide +kernel) (pa_cons (pv 1) pa_nil)) (nomark _)))))))), ?_⟩
    have n8 := ok.N.eight
    have elt : ∀ {i : Nat} {x : V}, (ns.map V.str)[i]? = some x → ∃ l, ns[i]? = some l ∧ V.str l = x := by
      intro i x hx
      rw [List.getElem?_map] at hx
      cases hq : ns[i]? with
      | none =>
        rw [hq] at hx
        cases hx
      | some l =>
        rw [hq] at hx
        exact ⟨l, rfl, Option.some.inj hx⟩
    have wb : ∀ s w, w ∈ bl s → wordD (.str w) = true := fun s w m => ok.N.word w (ok.sub s w m)
    have wf : ∀ (g : Str → Bool) w, w ∈ ns.filter g → wordD (.str w) = true := fun g w m => ok.N.word w (List.mem_filter.mp m).1
    refine q_forLn (xs := ns.map V.str) (ev_var rfl) ha
      (fun i σ' H' => (∃ x3 x4 x5 x6 x7 x8 : Option V, σ' = [some (.ref L), some (.ref a), some (.ref b), x3, x4, x5, x6, x7, x8]) ∧ Ex H H') ?_ ?_ ?_ ?_
    · exact fun H1 e1 => ⟨⟨_, _, _, _, _, _, rfl⟩, e1⟩
    · rintro i σ' H1 _ ⟨_, e1⟩
      exact ex_l e1 ha
    · rintro i x σ' H1 hx ⟨⟨x3, x4, x5, x6, x7, x8, rfl⟩, e1⟩
      obtain ⟨one, ho, rfl⟩ := elt hx
      have mo : one ∈ ns := List.mem_of_getElem? ho
      have lv1 := lv.ext e1
      have hd1 := hd.ext e1
      have ha1 := ex_l e1 ha
      -- the ups
      refine q_asgDL (K := K) (edl_filt (K := K) (j := 8) (vs := [8]) (fun w => decide (one ∈ bl w)) (ev_var rfl) ha1 (by omega) (fun _ => rfl) (fun _ => rfl) fun s H2 e2 m => et_test (ev_inL (ev_var rfl) (ed_dget (ev_var rfl) (hd1.ext e2) (ev_var rfl) m))) fun up xs H2 nup e2 hup gup => ?_
      have lv2 := lv1.ext e2
      have hd2 := hd1.ext e2
      refine q_when (b := false || false) (et_or (et_is (et_test (ed_neD (ed_m1 (fun _ _ => rfl) lv2 ok (ev_var rfl) (ev_var rfl) mo) (ed_dget (ev_var rfl) hd2 (ev_var rfl) mo) (noDict_txts _) (noDict_txts _) (shapedL (wb one)) (shapedL (wb one)))) (by rw [eqv_txts]; simp)) fun _ =>
        et_is (et_test (ed_neD (ed_m1 (fun _ _ => rfl) lv2 ok (ev_var rfl) (ev_var rfl) mo) (ed_var rfl (.lst (sq_of hup) gup)) (noDict_txts _) (noDict_txts _) (shapedL (wf _)) (shapedL (wf _)))) (by rw [eqv_txts]; simp)) (fun hb => by cases hb) fun _ H3 e3 => ?_
      have e13 : Ex H H3 := (e1.trans e2).trans e3
      refine s_forLn (xs := ns.map V.str) (ev_var rfl) (ex_l e13 ha)
        (fun j σ' H' => (∃ x5 x6 x7 x8 : Option V, σ' = [some (.ref L), some (.ref a), some (.ref b), some (.str one), some (.ref up), x5, x6, x7, x8]) ∧ Ex H H') ?_ ?_ ?_ ?_
      · exact fun H4 e4 => ⟨⟨_, _, _, _, rfl⟩, e13.trans e4⟩
      · rintro j σ' H4 _ ⟨_, e4⟩
        exact ex_l e4 ha
      · rintro j x σ' H4 hx ⟨⟨x5, x6, x7, x8, rfl⟩, e4⟩
        obtain ⟨two, ht, rfl⟩ := elt hx
        have mt : two ∈ ns := List.mem_of_getElem? ht
        have lv4 := lv.ext e4
        have hd4 := hd.ext e4
        refine q_when (b := false) (et_is (et_test (ev_op (ev_reprB (ed_m2 (fun _ _ => rfl) lv4 ok (ev_var rfl) (ev_var rfl) (ev_var rfl) mo mt)) (ev_reprB (ed_bl (ev_inL (ev_var rfl) (ed_dget (ev_var rfl) hd4 (ev_var rfl) mt)))) (rv_ne rfl))) (by simp)) (fun hb => by cases hb) fun _ H5 e5 => ?_
        have lv5 := lv4.ext e5
        have hd5 := hd4.ext e5
        refine q_when (b := false) (et_is (et_test (ev_op (ev_reprB (ed_m2 (fun _ _ => rfl) lv5 ok (ev_var rfl) (ev_var rfl) (ev_var rfl) mo mt)) (ev_reprB (ed_bl (ev_andV (a := !decide (one = two)) (b := decide (two ∈ bl one)) (ev_is (ev_op (ev_var rfl) (ev_var rfl) (rv_ne rfl)) (by congr 2; exact decide_eq_decide.mpr ⟨fun z => V.str.inj z, fun z => by rw [z]⟩)) fun _ => ev_inL (ev_var rfl) (ed_dget (ev_var rfl) hd5 (ev_var rfl) mo)))) (rv_ne rfl))) (by simp)) (fun hb => by cases hb) fun _ H6 e6 => ?_
        have hd6 := hd5.ext e6
        have e46 := (e4.trans e5).trans e6
        refine q_asgDL (K := K) (edl_filt (K := K) (j := 8) (vs := [8]) (fun w => decide (w ∈ bl one) && decide (w ∈ bl two)) (ev_var rfl) (ex_l e46 ha) (by omega) (fun _ => rfl) (fun _ => rfl) fun s H7 e7 m => et_and (et_test (ev_inL (ev_var rfl) (ed_dget (ev_var rfl) (hd6.ext e7) (ev_var rfl) mo))) fun _ => et_test (ev_inL (ev_var rfl) (ed_dget (ev_var rfl) (hd6.ext e7) (ev_var rfl) mt))) fun bp xs7 H7 nbp e7 hbp gbp => ?_
        have hd7 := hd6.ext e7
        refine q_asgDL (K := K) (edl_filt (K := K) (j := 8) (vs := [8]) (fun w => decide (one ∈ bl w) && decide (two ∈ bl w)) (ev_var rfl) (ex_l (e46.trans e7) ha) (by omega) (fun _ => rfl) (fun _ => rfl) fun s H8 e8 m => et_and (et_test (ev_inL (ev_var rfl) (ed_dget (ev_var rfl) (hd7.ext e8) (ev_var rfl) m))) fun _ => et_test (ev_inL (ev_var rfl) (ed_dget (ev_var rfl) (hd7.ext e8) (ev_var rfl) m))) fun mp xs8 H8 nmp e8 hmp gmp => ?_
        have e48 := (e46.trans e7).trans e8
        have lv8 := lv.ext e48
        have hd8 := hd.ext e48
        have hbp8 := e8 _ _ hbp
        rw [Dds.txts gbp] at hbp8
        rw [Dds.txts gmp] at hmp
        have mostE : EvD K (tCall (spMost K fun bl l w => decide (w ∈ bl l)) [] E0 (tCons (tVar 6) (tCons (tVar 2) tNil))) ([some (.ref L), some (.ref a), some (.ref b), some (.str one), some (.ref up), some (.str two), some (.ref bp), some (.ref mp), x8] : L2.St) H8 (meetF ns bl one two) := fun H9 e9 Q9 q9 =>
          ⟨_, rfl, _, rfl, bp, b, bothOf ns bl one two, ns, bl, rfl, sq_of (e9 _ _ hbp8), hd8.ext e9, fun x m => ⟨(List.mem_filter.mp m).1, ok.N.word x (List.mem_filter.mp m).1⟩, Nat.le_trans (filter_len _) n8, fun u H10 e10 g => q9 u H10 e10 g⟩
        have leastE : EvD K (tCall (spMost K fun bl l w => decide (l ∈ bl w)) [] E0 (tCons (tVar 7) (tCons (tVar 2) tNil))) ([some (.ref L), some (.ref a), some (.ref b), some (.str one), some (.ref up), some (.str two), some (.ref bp), some (.ref mp), x8] : L2.St) H8 (joinF ns bl one two) := fun H9 e9 Q9 q9 =>
          ⟨_, rfl, _, rfl, mp, b, moreOf ns bl one two, ns, bl, rfl, sq_of (e9 _ _ hmp), hd8.ext e9, fun x m => ⟨(List.mem_filter.mp m).1, ok.N.word x (List.mem_filter.mp m).1⟩, Nat.le_trans (filter_len _) n8, fun u H10 e10 g => q9 u H10 e10 g⟩
        refine s_when (b := false || false) (et_or (et_test (ev_neSc (ed_m2 (fun _ _ => rfl) lv8 ok (ev_var rfl) (ev_var rfl) (ev_var rfl) mo mt) mostE (firstOf_sc _ _))) fun _ => et_test (ev_neSc (ed_m2 (fun _ _ => rfl) lv8 ok (ev_var rfl) (ev_var rfl) (ev_var rfl) mo mt) leastE (firstOf_sc _ _))) (fun hb => by cases hb) fun _ H9 e9 => ?_
        exact ⟨⟨_, _, _, _, rfl⟩, e48.trans e9⟩
      · rintro σ' H4 ⟨⟨x5, x6, x7, x8, rfl⟩, e4⟩
        exact ⟨⟨_, _, _, _, _, _, rfl⟩, e4⟩
    · rintro σ' H1 ⟨⟨x3, x4, x5, x6, x7, x8, rfl⟩, e1⟩
      have lv1 := lv.ext e1
      have ha1 := ex_l e1 ha
      have lenE : Ev (tCB (rLenI C (sp0 K C fun ns _ => .int (ns.length : Nat)) E0) (tCons (tVar 0) tNil)) ([some (.ref L), some (.ref a), some (.ref b), x3, x4, x5, x6, x7, x8] : L2.St) H1 (.int (ns.length : Nat)) := fun H2 e2 Q2 q2 => by
        obtain ⟨dx, fs, h1, _⟩ := lv_ins (lv1.ext e2)
        exact ⟨_, rfl, L, dx, fs, rfl, h1, L, ns, bl, rfl, lv1.ext e2, ok, fun u H3 e3 g => by
          cases g
          exact ⟨ns.length, rfl, by omega, q2 H3 e3⟩⟩
      have leastE : EvD K (tProp C (sp0 K C fun ns _ => .str (ns.headD "")) [] E0 (tVar 0)) ([some (.ref L), some (.ref a), some (.ref b), x3, x4, x5, x6, x7, x8] : L2.St) H1 (.str (ns.headD "")) := fun H2 e2 Q2 q2 => by
        obtain ⟨dx, fs, h1, _⟩ := lv_ins (lv1.ext e2)
        exact ⟨_, rfl, L, dx, fs, rfl, h1, L, ns, bl, rfl, lv1.ext e2, ok, fun u H3 e3 g => q2 u H3 e3 g⟩
      refine s_ret (v := .bl true) (ev_andV (a := true) (b := true) (ev_is (ed_eqD (ed_m0 (fun _ _ => rfl) lv1 ok (ev_var rfl)) (ed_var rfl (.lst ha1 (Dds.strs ns))) (noDict_txts _) (noDict_txts _) (shapedL ok.N.word) (shapedL ok.N.word)) (by rw [eqv_txts]; simp)) fun _ =>
        ev_andV (a := true) (b := true) (ev_is (ev_op leastE.str (ev_op (ev_var rfl) ev_c (rv_ixL ha1 (heads ok.N.one))) (rv_eq rfl)) (by simp)) fun _ => ev_is (ev_op lenE (ev_is (ed_lenL (K := K) (ev_var rfl) ha1) (by rw [List.length_map])) (rv_eq rfl)) (by simp)) fun H2 e2 => kQ H2 (e1.trans e2)
end
end K01
set_option maxHeartbeats 4000000
namespace My
open PySem PySem.Spec PyProof.Rows L2
section
variable {P : Program} {w : World} {K : PySem.W.Frag} {mg : Str → Option Value} {base : Heap} {CX : CXT} {k : Nat} {f : Addr} {ps : List Str} {sp : Sp}
/-- by the body, its guards and its code object known -/
theorem FnG.byBodyAt {x qual : Str} {st : Stmt} {N : List Str} {oc : Value} {od an : Option Addr} {osl : Array (Option Value)} {kV doc pm cdv ct : Value}
    (lk : K.lookup f = some ⟨oc, od, .func (PySem.W.fnOf x qual (defArgs st) (defBody st) (defScope st) .none kV doc pm an cdv ct), osl⟩) (code : PySem.W.codeIn K cdv qual = true) (S : FnScope N ps (defScope st))
    (len : ∀ vs H Q E, sp vs H Q E → vs.length = ps.length)
    (body : ∀ (A : Around) (outer : List Env) (s : Shared) (H : Hp) (vs : List V) (Q : VK) (E : XK),
      A.guards = some [] → Room k (A.deeper (envOfC qual (defScope st) s.heap.objs.size f cdv)) → sp vs H Q E →
      ∃ t, PSs (cxOf CX P w K mg base N qual (defScope st) f cdv A outer s H E) (defBody st) t ∧ t { nx := fun _ H' => Q .non H', rt := Q } (start N vs) H) :
    FnG P w K mg base CX (k + 1) f (PySem.W.fnOf x qual (defArgs st) (defBody st) (defScope st) .none kV doc pm an cdv ct) ps sp :=
  ⟨len, fun A outer s H args us vs Q E hg hr e0 hb r hsp => LamX.run_ofS lk code S hr e0 hb r (len _ _ _ _ hsp) fun hr' => body A outer s H vs Q E hg hr' hsp⟩
end
end My
namespace K01
open PySem PySem.Spec PyProof.Rows L2 Evl My LamX
mutual
theorem dd_extN {K : PySem.W.Frag} {H H' : Hp} (e : ExtN H H') : ∀ (d : PyData) (v : V), Dd K H v d → Dd K H' v d
  | .none, _, g => by
    cases g
    exact .non
  | .bool b, _, g => by
    cases g
    exact .bl b
  | .int i, _, g => by
    cases g
    exact .int i
  | .str x, _, g => by
    cases g
    exact .str x
  | .tuple ds, _, g => by
    cases g with
    | tup hs ha =>
      refine .tup ?_ (dds_extN e ds _ ha)
      rcases hs with (hb | ⟨ob, hb⟩) | hb
      · exact .inl (.inl (e _ _ hb fun _ z => nomatch z))
      · exact .inl (.inr ⟨ob, e _ _ hb fun _ z => nomatch z⟩)
      · exact .inr hb
  | .list ds, _, g => by
    cases g with
    | lst hs ha =>
      refine .lst ?_ (dds_extN e ds _ ha)
      rcases hs with (hb | ⟨ob, hb⟩) | hb
      · exact .inl (.inl (e _ _ hb fun _ z => nomatch z))
      · exact .inl (.inr ⟨ob, e _ _ hb fun _ z => nomatch z⟩)
      · exact .inr hb
  | .dict kvs, _, g => by
    cases g with
    | dct hb => exact .dct (e _ _ hb fun _ z => nomatch z)
theorem dds_extN {K : PySem.W.Frag} {H H' : Hp} (e : ExtN H H') : ∀ (ds : List PyData) (vs : List V), Dds K H vs ds → Dds K H' vs ds
  | [], _, g => by
    cases g
    exact .nil
  | d :: ds, _, g => by
    cases g with
    | cons g1 g2 => exact .cons (dd_extN e d _ g1) (dds_extN e ds _ g2)
end
/-- a test that may make lambdas -/
def EtN (T : List (Addr × Str)) (tt : TT) (σ : L2.St) (H : Hp) (b : Bool) : Prop := ∀ H1, ExtN H H1 → Tabs T H1 → ∀ Q : Bool → Hp → Prop, (∀ H2, ExtN H1 H2 → Tabs T H2 → Q b H2) → tt σ H1 Q
abbrev sKept : Stmt := top 21
def NK : List Str := ["_law_door", "e"]
theorem scKept : FnScope NK ["_law_door"] (defScope sKept) := ⟨rfl, rfl, rfl, by decide +kernel, rfl, by decide +kernel, by decide +kernel⟩
/-- isinstance(e, c), e the caught exception -/
def rIsZ (K : PySem.W.Frag) (a : Addr) (cls : Value) (d : Option Addr) : List V → Hp → VK → Prop := fun xs H Q => ∃ (D : Addr) (c : V) (cv : Value) (b : Bool) (dd : Addr) (fs : List (Str × V)), xs = [.ref a, c] ∧ cls = .ref D ∧ d = some dd ∧ H dd = some (.xd fs) ∧ ExR K D ∧ ClsV c cv ∧ PySem.W.kitOne K (.ref D) cv = some b ∧ Q (.bl b) H
theorem call_isZ {X : Cx} {a : Addr} {oe : Obj} {cls : Value} {d : Option Addr} {pn : List (Addr × Obj)} (hz : Zc cls d oe) (hf : ∃ vs, oe.data = .fields vs) : CallR (X.suite a ((a, oe) :: pn)) (.builtin "isinstance") (rIsZ X.K a cls d) := by
  intro pins s σ H xs us Q I r h
  obtain ⟨D, c, cv, b, dd, fs, rfl, rfl, rfl, ed, R, hc, e, q⟩ := h
  obtain ⟨u1, u2, rfl, r1, r2⟩ := vals2 r
  obtain rfl : u1 = Value.ref a := r1
  have e2 := hc.eq r2
  subst e2
  obtain ⟨at1, _⟩ := I.pin (a, oe) (List.mem_append_left _ List.mem_cons_self)
  obtain ⟨vs, hd⟩ := hf
  obtain ⟨mA, hns, hr⟩ := (show ObjOk X.prog X.w H s.heap dd (.xd fs) from I.hok dd _ ed)
  obtain ⟨od, ho, hl⟩ := lookIn_ns hns
  obtain ⟨cdD, hcD, _⟩ := PySem.W.any_some R.hd
  have isCls : (PySem.W.clsIn X.K D).isSome = true := by
    rw [hcD]
    rfl
  have done : ∀ tk, EP (X.suite a ((a, oe) :: pn)) pins σ Q (.bool b) { s with toks := tk } := fun tk => ⟨.bl b, H, I.tok _, rfl, q⟩
  have J : PySem.W.InstAt s.heap a oe D (some od) := ⟨at1, hz.1, by unfold PySem.W.notCls; rw [hd] <;> rfl, by rw [hz.2]; exact ho⟩
  exact PySem.W.kia_one (PySem.W.kitx_exc isCls R.ga R.gg R.exC R.ha R.hn R.ht R.hm) I.kIn J e (fun z => nomatch z) done
/-- e.f, e the caught exception, of whichever class -/
def tXfE (K : PySem.W.Frag) (a : Addr) (cls : Value) (d : Option Addr) (n : Str) (te : TE) : TE := fun σ H Q => ∃ D, cls = .ref D ∧ XfC K D ∧ PySem.W.findIn K (.ref D) n = some none ∧ tXf a cls d D n te σ H Q
theorem pe_xfE {X : Cx} {a : Addr} {oe : Obj} {cls : Value} {d : Option Addr} {pn : List (Addr × Obj)} {e : Expr} {te : TE} {pos : Pos} {n : Str} (hz : Zc cls d oe) (hf : ∃ vs, oe.data = .fields vs) (he : PE (X.suite a ((a, oe) :: pn)) e te)
    (hb : attributeBase e n X.env (eval e X.env) = eval e X.env := by rfl) : PE (X.suite a ((a, oe) :: pn)) (.Attribute e n pos) (tXfE X.K a cls d n te) :=
  ⟨fun pins s σ H Q I ⟨D, _, T, no, h⟩ => (pe_xf T no hz hf he hb).run pins s σ H Q I h⟩
/-- an error class, as the law asks for it -/
structure ErF (K : PySem.W.Frag) (cM C1 C2 D : Addr) (b1 b2 : Bool) : Prop where
  r : ExR K D
  xf : XfC K D
  exm : PySem.W.exmOne K (.ref D) (.ref cM) = some true
  no : PySem.W.findIn K (.ref D) "value" = some none
  k1 : PySem.W.kitOne K (.ref D) (.ref C1) = some b1
  k2 : PySem.W.kitOne K (.ref D) (.ref C2) = some b2
structure Kf (P : Program) (w : World) (K : PySem.W.Frag) (mg : Str → Option Value) (base : Heap) (cM C1 C2 : Addr) : Prop where
  ex : ∃ (g : Addr) (fd : FuncData), mg "_law_kept" = some (.ref g) ∧ PySem.W.keepIn K (.ref g) = true ∧ Fun K "_law_kept" "_law_kept" sKept g fd ∧ Binds K fd ["_law_door"] []
  gM : mg "MaskError" = some (.ref cM)
  g1 : mg "InvalidLevels" = some (.ref C1)
  g2 : mg "InvalidLevel" = some (.ref C2)
  e1 : ErF K cM C1 C2 C1 true false
  e2 : ErF K cM C1 C2 C2 false true
  isn : mg "isinstance" = none
  rep : mg "repr" = none
/-- a datum that can be told -/
structure Tb (d : PyData) : Prop where
  nd : d.hasDict = false ∨ d = .dict []
  sh : d.showable = true
  sz : d.shown.length ≤ 100000
  dp : d.depth ≤ 60
def EchK (K : PySem.W.Frag) (D : Addr) (b1 b2 : Bool) (d : PyData) (Q : VK) : XK := fun cls dd H' => cls = .ref D ∧ ∃ a v', dd = some a ∧ H' a = some (.xd [("value", v')]) ∧ Dd K H' v' d ∧ Tb d ∧ ∀ u H2, Ex H' H2 → Dd K H2 u (.list [.bool b1, .bool b2, .str d.shown]) → Q u H2
/-- _law_kept(lambda: ..): the door raises -/
def tKept (K : PySem.W.Frag) (cM C1 C2 : Addr) (T : List (Addr × Str)) (q : Str) (t : XK → TE) : TE := fun σ H Q => Tabs T H ∧ ∀ H1 c', ExtN H H1 → Tabs T H1 → H1 c' = some (CodeO c' q) →
  ∃ (D : Addr) (b1 b2 : Bool) (d : PyData), ErF K cM C1 C2 D b1 b2 ∧ t (EchK K D b1 b2 d Q) σ H1 fun _ _ => False
/-- the door is asked, the way out told of the very slots -/
theorem door_at {X : Cx} {pins : List (Addr × Obj)} {σ : L2.St} {H : Hp} {s : Shared} {g f c' : Addr} {cdg pm ctv : Value} {params : Arguments} {body : Expr} {scope : Scope} {k : Nat} {pn : List (Addr × Obj)} {xe : Value → Shared → Prop} {W : WX} {tb : TE} {p1 p2 : Pos}
    (I : Inv X pins σ H s) (L : LamS X.env.scope scope) (at1 : s.heap.get? f = some (PySem.W.kla_obj "<lambda>" (X.env.qual ++ "<lambda>") params body scope (cloFrom X.env.cells scope.names []) pm c' ctv)) (un1 : H f = none) (nf : f ∉ frs X.stack)
    (hb0 : bindArgs (PySem.W.kla_fn "<lambda>" (X.env.qual ++ "<lambda>") params body scope (cloFrom X.env.cells scope.names []) pm (.ref c') ctv) ⟨[], []⟩ = pure [])
    (tk : Takes ((cxOf C8.CX0 X.prog X.w X.K X.mg X.base NK "_law_kept" (defScope sKept) g cdg X.A X.stack s H C8.E0).tr pn xe) W) (room : Room (k + 1) (X.A.deeper (envOfC "_law_kept" (defScope sKept) s.heap.objs.size g cdg)))
    {pZ : List (Addr × Obj)} {sZ : Shared} {σZ : L2.St} {HZ : Hp} {Q : VK} (IZ : Inv ((cxOf C8.CX0 X.prog X.w X.K X.mg X.base NK "_law_kept" (defScope sKept) g cdg X.A X.stack s H C8.E0).tr pn xe) pZ σZ HZ sZ)
    (bodyOk : ∀ (A : Around) (outer : List Env) (s : Shared) (H : Hp), Room k (A.deeper (lamEnv X scope s.heap.objs.size f c')) → PE (lamCx X A outer s H (WE W σZ) scope f c') body tb)
    (slot : σZ[0]? = some (some (.ref f))) (known : HZ c' = some (CodeO c' (X.env.qual ++ "<lambda>"))) (go : tb σ HZ Q) :
    wpAny (model X.prog X.w) ((cxOf C8.CX0 X.prog X.w X.K X.mg X.base NK "_law_kept" (defScope sKept) g cdg X.A X.stack s H C8.E0).tr pn xe).A (eval (.Call (.Name "_law_door" p1) [] [] p2) ((cxOf C8.CX0 X.prog X.w X.K X.mg X.base NK "_law_kept" (defScope sKept) g cdg X.A X.stack s H C8.E0).tr pn xe).env)
      (EP ((cxOf C8.CX0 X.prog X.w X.K X.mg X.base NK "_law_kept" (defScope sKept) g cdg X.A X.stack s H C8.E0).tr pn xe) pZ σZ Q) xe sZ := by
  have named := (pe_var (X := (cxOf C8.CX0 X.prog X.w X.K X.mg X.base NK "_law_kept" (defScope sKept) g cdg X.A X.stack s H C8.E0).tr pn xe) (x := "_law_door") (pos := p1) (i := 0) rfl (by first | exact Or.inl rfl | exact Or.inr (Or.inl rfl))).run pZ sZ σZ HZ (fun v H1 => v = .ref f ∧ H1 = HZ) IZ ⟨.ref f, slot, rfl, rfl⟩
  refine wpAny_Call_Name_kw (thn named ?_)
  rintro u s1 ⟨v, H1, I1, rv, rfl, rfl⟩
  obtain rfl : u = Value.ref f := rv
  have still := I1.base.keep f _ at1 un1 nf (fun z => nomatch (show f ∈ ([] : List Addr) from z))
  refine PySem.W.callWith_F0 ⟨_, _, _, _, still⟩ ?_
  have grown : Un (frs X.stack) [] H H1 s.heap s1.heap := I1.base
  obtain ⟨⟨oc, flds, t, isc, isd, isq⟩, _, _⟩ := I1.hok c' _ known
  have asked : codeAny (model X.prog X.w) (X.A.deeper (envOfC "_law_kept" (defScope sKept) s.heap.objs.size g cdg)) (.call (.ref f) ⟨[], []⟩)
      (CR (L2.CX X.prog X.w) (envOfC "_law_kept" (defScope sKept) s.heap.objs.size g cdg :: X.stack) X.prog X.w H1 s1 Q (WE W σZ)) s1 := by
    refine PySem.W.kla_callFunE room.depth still rfl L.co L.gen rfl ⟨c', oc, flds, t, rfl, isc, isd, isq⟩ ?_
    rw [hb0]
    refine wpAny_pure (wpAny_newFunctionEnv (fun y hy => (L.own y hy).2) (fun y hy => by cases hy) (fun fresh ns bare => ⟨I1.nolimit.fresh _ bare, ?_⟩) L.kind)
    have kept : ∀ b o, s1.heap.get? b = some o → fresh.get? b = some o := fun b o e => bare.extBut b o (Nat.ne_of_lt (Heap.lt_size e)) (Heap.get?_push_of_some _ e)
    have J := lam_start2 (c' := c') (f := f) (E := WE W σZ) (tk := s1.toks + ([] : List (Str × Value)).length) I L I1.env0 room.hd grown ns kept
    refine PySem.W.kla_codeExpr (wpAny_mono ((bodyOk _ _ s1 H1 (room.deeper _)).run [] _ _ H1 Q J go) ?_ fun e s' hq => hq)
    rintro u s' ⟨w', H', J', rw', q⟩
    exact ⟨w', H', J'.os, J'.bare, J'.base, J'.hok, rw', q⟩
  refine wpAny_call (codeAny_mono asked fun r s' hq => ?_)
  match r, hq with
  | .error e, hq => exact passAt tk σZ pZ H1 s1 e s' I1 hq
  | .ok (.ret u), hq => exact I1.after hq
  | .ok .next, hq => exact hq.elim
  | .ok .brk, hq => exact hq.elim
  | .ok .cont, hq => exact hq.elim
theorem pe_kept {X : Cx} {cM C1 C2 c P : Addr} {k : Nat} {T : List (Addr × Str)} {params : Arguments} {body : Expr} {scope : Scope} {t : XK → TE} {p lpos pos : Pos} (R : Kf X.prog X.w X.K X.mg X.base cM C1 C2) (hst : X.stack = X.env :: X.outer) (hfr0 : X.env.frame = some X.env.locals)
    (hgd : X.A.guards = some []) (hr : Room (k + 2) X.A) (hg : Gl X "_law_kept") (TB : TabB X.base X.mg c P) (hcode : X.env.code = .ref c) (hmT : (P, X.env.qual ++ "<lambda>") ∈ T) (hu : ∀ p ∈ T, p.1 = P → p.2 = X.env.qual ++ "<lambda>")
    (L : LamS X.env.scope scope) (hdef : defaultsOf params X.env = ([], []))
    (hbind : ∀ (q : Str) (cl : List (Str × Addr)) (pm cv ctv : Value), bindArgs (PySem.W.kla_fn "<lambda>" q params body scope cl pm cv ctv) ⟨[], []⟩ = pure [])
    (hbody : ∀ (A : Around) (outer : List Env) (s : Shared) (H : Hp) (E : XK) (f c' : Addr), Room k (A.deeper (lamEnv X scope s.heap.objs.size f c')) → PE (lamCx X A outer s H E scope f c') body (t E))
    (tm : ∀ (E E' : XK) σ H, (∀ cls dd H', E cls dd H' → E' cls dd H') → t E σ H (fun _ _ => False) → t E' σ H (fun _ _ => False)) (hs2 : starEach [.Lambda params body scope lpos] X.env = (false, eval (.Lambda params body scope lpos) X.env) :: starEach [] X.env := by rfl) :
    PE X (.Call (.Name "_law_kept" p) [.Lambda params body scope lpos] [] pos) (tKept X.K cM C1 C2 T (X.env.qual ++ "<lambda>") t) := by
  refine ⟨fun pins s σ H Q I h => ?_⟩
  obtain ⟨hT, h⟩ := h
  obtain ⟨g, fd, hm, hk, F, hb⟩ := R.ex
  obtain ⟨oc, od, kV, doc, pm0, an, cdv, ct, osl, rfl, lk, hcg⟩ := F.ex
  refine wpAny_Call_Name_kw (ld_glob I hg hm ?_ (by decide))
  refine PySem.W.callWith_K (h₀ := X.base) I.ok.mod.kin hk ?_ hs2 (by rfl)
  rw [hs2]
  show wpAny _ _ (spliced ((false, eval (.Lambda params body scope lpos) X.env) :: backTo pos (starEach [] X.env))) _ _ s
  refine Calls.spliced_cons (lam_make2 I TB hcode hmT hu hT hdef (L.has I.ok) fun f c' pm' ctv H1 s1 I1 eN T1 hf hfn hfr hco => ?_)
  have hfl : f ≠ X.env.locals ∧ f ∉ X.fs := by
    rw [hst] at hfr
    unfold frs at hfr
    rw [List.filterMap_cons, hfr0] at hfr
    exact ⟨fun z => hfr (by rw [z]; exact List.mem_cons_self ..), fun z => hfr (List.mem_cons_of_mem _ z)⟩
  have run := (pa_nil (X := X)).run pos pins s1 σ H1 (fun vs H2 => vs = [] ∧ H2 = H1) I1 ⟨rfl, rfl⟩
  have run2 : wpAny (model X.prog X.w) X.A (spliced (backTo pos (starEach [] X.env))) (fun us s2 => us = [] ∧ s2 = s1) X.xe s1 := wpAny_pure ⟨rfl, rfl⟩
  refine thn run2 ?_
  rintro us s2 ⟨rfl, rfl⟩
  have I2 := I1
  refine ⟨I2.kIn, ?_⟩
  show wpAny _ _ (call (.ref g) [.ref f]) _ _ _
  obtain ⟨D, b1, b2, d, ef, ht⟩ := h H1 c' eN T1 hco
  have rc : codeAny (model X.prog X.w) X.A (.call (.ref g) ⟨[.ref f], []⟩) (CR C8.CX0 X.stack X.prog X.w H1 s2 Q C8.E0) s2 := by
    refine run_ofS (N := NK) (ps := ["_law_door"]) (us := [.ref f]) (vs := [.ref f]) lk hcg scKept hr I2.env0 (hb s2 [.ref f] I2.kIn rfl) (.cons rfl .nil) rfl fun hr' => ?_
    have hun : (X.A.deeper (envOfC "_law_kept" (defScope sKept) s2.heap.objs.size g cdv)).units + 200 < cLine := by
      have := hr'.un
      omega
    refine ⟨_, PSs.nox (pss_cons (ps_try_as (i := 1) (c := .ref cM) (tb := fun W D σZ HZ => σZ[0]? = some (some (.ref f)) ∧ HZ c' = some (CodeO c' (X.env.qual ++ "<lambda>")) ∧ t (WE W σZ) σ HZ fun _ _ => False)
      (ts := fun a cls d => tRet (tLst (tCons (tCB (rIsZ X.K a cls d) (tCons (tVar 1) (tCons (tC (.ref C1)) tNil))) (tCons (tCB (rIsZ X.K a cls d) (tCons (tVar 1) (tCons (tC (.ref C2)) tNil))) (tCons (tCB (rRepr X.K) (tCons (tXfE X.K a cls d "value" (tVar 1)) tNil)) tNil))))) (Wout := fun _ _ _ _ => False) rfl rfl scKept.nd rfl rfl ⟨rfl, by decide, Or.inl R.gM⟩ L2.takes0
      (fun W pn xe tk _ => ?_)
      (fun a oe cls d pn hz hf => pss_one (ps_ret (pe_lst (pa_cons (pe_callB (call_isZ hz hf) (by rfl) R.isn (by decide +kernel) (pa_cons (pv 1) (pa_cons (pe_glob (v := .ref C1) rfl R.g1 rfl) pa_nil))) (pa_cons (pe_callB (call_isZ hz hf) (by rfl) R.isn (by decide +kernel) (pa_cons (pv 1) (pa_cons (pe_glob (v := .ref C2) rfl R.g2 rfl) pa_nil)))
        (pa_cons (pe_callB (call_reprU hgd hun) (by rfl) R.rep (by decide +kernel) (pa_cons (pe_xfE hz hf (pv 1)) pa_nil)) pa_nil)))))))
      (pss_one (ps_ret pe_non))), ?_⟩
    · have ask : ∀ p1 p2 : Pos, PE ((cxOf C8.CX0 X.prog X.w X.K X.mg X.base NK "_law_kept" (defScope sKept) g cdv X.A X.stack s2 H1 C8.E0).tr pn xe) (.Call (.Name "_law_door" p1) [] [] p2)
          (fun σZ HZ _ => σZ[0]? = some (some (.ref f)) ∧ HZ c' = some (CodeO c' (X.env.qual ++ "<lambda>")) ∧ t (WE W σZ) σ HZ fun _ _ => False) := fun p1 p2 =>
        ⟨fun pZ sZ σZ HZ Q IZ ⟨h1, h2, h3⟩ => wpAny_mono (door_at (Q := fun _ _ => False) I2 L hf hfn hfr (hbind _ _ _ _ _) tk hr' IZ (fun A outer s H r => hbody A outer s H (WE W σZ) f c' r) h1 h2 h3) (fun v s' ⟨_, _, _, _, z⟩ => z.elim) fun e s' h => h⟩
      exact pss_one (ps_expr (ask _ _))
    · refine ⟨rfl, hco, tm _ _ _ _ ?_ ht⟩
      rintro cls dd H' ⟨rfl, a0, v', rfl, hx, gd, tb, k⟩
      refine ⟨true, ef.exm, fun _ a na => ?_, fun z => Bool.noConfusion z⟩
      refine ⟨.ref a, rfl, D, .ref C1, .ref C1, b1, a0, _, rfl, rfl, rfl, hx, ef.r, .own C1, ef.k1, ?_⟩
      refine ⟨.ref a, rfl, D, .ref C2, .ref C2, b2, a0, _, rfl, rfl, rfl, hx, ef.r, .own C2, ef.k2, ?_⟩
      refine ⟨D, rfl, ef.xf, ef.no, .ref a, rfl, rfl, rfl, a0, _, v', rfl, hx, rfl, v', d, rfl, .inr ⟨gd, tb.nd⟩, tb.sh, sz_of tb.sz, Nat.le_trans tb.dp (by decide), (by show 3 ≤ sizeLine; decide), fun r nr => ?_⟩
      exact k _ _ (Ex.new nr) (.lst (sq_of upd_same) (.cons (.bl _) (.cons (.bl _) (.cons (.str _) .nil))))
  refine wpAny_call (codeAny_mono rc fun r s3 hq => ?_)
  match r, hq with
  | .error e, hq => exact (show False from hq).elim
  | .ok (.ret u), hq => exact I2.after hq
  | .ok .next, hq => exact hq.elim
  | .ok .brk, hq => exact hq.elim
  | .ok .cont, hq => exact hq.elim
end K01
set_option maxHeartbeats 4000000
namespace K01
open PySem PySem.Spec PyProof.Rows L2 Evl My LamX
/-! data whose told text is short and plain -/
def AscS (s : Str) : Prop := ∀ c ∈ s.cps.toList, c < 128
instance (s : Str) : Decidable (AscS s) := inferInstanceAs (Decidable (∀ c ∈ s.cps.toList, c < 128))
theorem AscS.app {a b : Str} (ha : AscS a) (hb : AscS b) : AscS (a ++ b) := fun c hc => by
  have e : (a ++ b).cps.toList = a.cps.toList ++ b.cps.toList := TL.tl_append a b
  rw [e] at hc
  rcases List.mem_append.mp hc with z | z
  · exact ha c z
  · exact hb c z
theorem asc_join {sep : Str} (hs : AscS sep) : ∀ {ts : List Str}, (∀ t ∈ ts, AscS t) → AscS (Str.join sep ts)
  | [], _ => fun c hc => by cases hc
  | [x], h => h x (List.mem_cons_self ..)
  | x :: y :: r, h => ((h x (List.mem_cons_self ..)).app hs).app (asc_join hs fun t m => h t (List.mem_cons_of_mem _ m))
theorem rep_asc : ∀ q : Nat, q ∈ [34, 39] → ∀ c : Nat, c < 128 → ∀ x ∈ Builtin.Str.reprChar q c, x < 128 := by decide +kernel
theorem quote_is (x : Str) : reprQuote x ∈ [34, 39] := by
  unfold reprQuote
  split
  · exact List.mem_cons_self ..
  · exact List.mem_cons_of_mem _ (List.mem_cons_self ..)
theorem fold_asc (q : Nat) (hq : q ∈ [34, 39]) : ∀ (l : List Nat) (acc : Array Nat), (∀ c ∈ l, c < 128) → (∀ c ∈ acc.toList, c < 128) → ∀ c ∈ (l.foldl (fun out c => out ++ (Builtin.Str.reprChar q c).toArray) acc).toList, c < 128
  | [], acc, _, h => h
  | x :: r, acc, hl, h => by
    rw [List.foldl_cons]
    refine fold_asc q hq r _ (fun c m => hl c (List.mem_cons_of_mem _ m)) fun c hc => ?_
    rw [Array.toList_append] at hc
    rcases List.mem_append.mp hc with z | z
    · exact h c z
    · exact rep_asc q hq x (hl x (List.mem_cons_self ..)) c z
theorem asc_repr {s : Str} (h : AscS s) : AscS (reprText s) := fun c hc => by
  unfold reprText at hc
  rw [Array.toList_push, ← Array.foldl_toList] at hc
  have q128 : reprQuote s < 128 := by
    have := quote_is s
    rcases List.mem_cons.mp this with z | z
    · omega
    · rw [List.mem_singleton.mp z]
      decide
  rcases List.mem_append.mp hc with z | z
  · refine fold_asc _ (quote_is s) _ _ h (fun c m => ?_) c z
    rw [List.mem_singleton.mp (show c ∈ [reprQuote s] from m)]
    exact q128
  · rw [List.mem_singleton.mp z]
    exact q128
theorem asc_ok {s : Str} (h : AscS s) : PyData.strOk s = true := by
  unfold PyData.strOk
  rw [← Array.all_toList, List.all_eq_true]
  intro c hc
  have := h c hc
  exact decide_eq_true (by omega)
structure Fc (n m : Nat) (d : PyData) : Prop where
  sh : d.showable = true
  asc : AscS d.shown
  sz : d.shown.length ≤ n
  dp : d.depth ≤ m
  sm : small d = true
  nd : d.hasDict = false
theorem fc_str {s : Str} (h : AscS s) (l : s.length ≤ 9) : Fc 92 1 (.str s) := by
  refine ⟨rfl, ?_, ?_, by simp [PyData.depth], ?_, by simp only [PyData.hasDict]⟩
  · rw [PyData.shown_str]
    exact asc_repr h
  · rw [PyData.shown_str]
    have := StrLaws.reprText_len s fun c hc => Nat.lt_trans (h c hc) (by decide)
    omega
  · show okS s = true
    unfold okS
    rw [asc_ok h, Bool.and_true, decide_eq_true_eq]
    omega
theorem fc_word {s : Str} (h : wordD (.str s) = true) : Fc 92 1 (.str s) := fc_str (fun c hc => by
  have := low_of h c hc
  omega) (by
  have := word_len h
  omega)
theorem fc_non : Fc 92 1 .none := ⟨rfl, by decide +kernel, by decide +kernel, by decide +kernel, rfl, by decide +kernel⟩
theorem fc_int5 : Fc 92 1 (.int 5) := ⟨by decide +kernel, by decide +kernel, by decide +kernel, by decide +kernel, rfl, by decide +kernel⟩
theorem fc_int1 : Fc 92 1 (.int 1) := ⟨by decide +kernel, by decide +kernel, by decide +kernel, by decide +kernel, rfl, by decide +kernel⟩
theorem fc_l0 : Fc 92 1 (.list []) := ⟨by decide +kernel, by decide +kernel, by decide +kernel, by decide +kernel, rfl, by decide +kernel⟩
theorem fc_t0 : Fc 92 1 (.tuple []) := ⟨by decide +kernel, by decide +kernel, by decide +kernel, by decide +kernel, rfl, by decide +kernel⟩
theorem Fc.mono {n m n' m' : Nat} {d : PyData} (h : Fc n m d) (a : n ≤ n') (b : m ≤ m') : Fc n' m' d := ⟨h.sh, h.asc, Nat.le_trans h.sz a, Nat.le_trans h.dp b, h.sm, h.nd⟩
theorem fcs {n m : Nat} : ∀ {ds : List PyData}, (∀ d ∈ ds, Fc n m d) → PyData.showableAll ds = true ∧ (∀ t ∈ PyData.shownAll ds, AscS t) ∧ piled (PyData.shownAll ds) ≤ (n + 2) * ds.length ∧ PyData.depthAll ds ≤ m ∧ smalls ds = true ∧ PyData.hasDictAll ds = false
  | [], _ => ⟨rfl, (fun t h => by simp only [PyData.shownAll] at h; cases h), by simp only [PyData.shownAll]; exact Nat.zero_le _, by simp [PyData.depthAll], rfl, by simp only [PyData.hasDictAll]⟩
  | d :: ds, h => by
    have f := h d (List.mem_cons_self ..)
    obtain ⟨h1, h2, h3, h4, h5, h6⟩ := fcs (ds := ds) fun x m => h x (List.mem_cons_of_mem _ m)
    refine ⟨by simp only [PyData.showableAll, f.sh, h1, Bool.and_self], fun t ht => ?_, ?_, ?_, ?_, ?_⟩
    · rw [PyData.shownAll_cons] at ht
      rcases List.mem_cons.mp ht with rfl | ht
      · exact f.asc
      · exact h2 t ht
    · rw [PyData.shownAll_cons, piled_cons, List.length_cons, Nat.mul_add, Nat.mul_one]
      have := f.sz
      omega
    · show max d.depth (PyData.depthAll ds) ≤ m
      exact Nat.max_le.mpr ⟨f.dp, h4⟩
    · show (small d && smalls ds) = true
      rw [f.sm, h5]
      rfl
    · simp only [PyData.hasDictAll, f.nd, h6, Bool.or_self]
theorem join_le (ts : List Str) : (Str.join ", " ts).length ≤ piled ts := by
  by_cases h : ts = []
  · subst h
    exact Nat.le_refl 0
  · have := join_length_add ts h
    omega
theorem fc_list {n m : Nat} {ds : List PyData} (h : ∀ d ∈ ds, Fc n m d) (hl : ds.length ≤ 12) : Fc (12 * (n + 2) + 3) (m + 1) (.list ds) := by
  obtain ⟨h1, h2, h3, h4, h5, h6⟩ := fcs h
  have hz : (n + 2) * ds.length ≤ (n + 2) * 12 := Nat.mul_le_mul_left _ hl
  refine ⟨by simp only [PyData.showable]; exact h1, ?_, ?_, ?_, ?_, by simp only [PyData.hasDict]; exact h6⟩
  · rw [PyData.shown_list]
    exact ((show AscS ("[" : Str) by decide +kernel).app (asc_join (by decide +kernel) h2)).app (by decide +kernel)
  · rw [PyData.shown_list, PySem.Str.length_append, PySem.Str.length_append]
    have := join_le (PyData.shownAll ds)
    have e1 : Str.length "[" = 1 := rfl
    have e2 : Str.length "]" = 1 := rfl
    omega
  · show PyData.depthAll ds + 1 ≤ m + 1
    omega
  · show (decide (ds.length ≤ 1000) && smalls ds) = true
    rw [h5, Bool.and_true, decide_eq_true_eq]
    omega
theorem fc_tup {n m : Nat} {ds : List PyData} (h : ∀ d ∈ ds, Fc n m d) (hl : ds.length ≤ 12) : Fc (12 * (n + 2) + 3) (m + 1) (.tuple ds) := by
  obtain ⟨h1, h2, h3, h4, h5, h6⟩ := fcs h
  have hz : (n + 2) * ds.length ≤ (n + 2) * 12 := Nat.mul_le_mul_left _ hl
  refine ⟨by simp only [PyData.showable]; exact h1, ?_, ?_, ?_, ?_, by simp only [PyData.hasDict]; exact h6⟩
  · rw [PyData.shown_tuple]
    refine ((show AscS ("(" : Str) by decide +kernel).app (asc_join (by decide +kernel) h2)).app ?_
    split
    · decide +kernel
    · decide +kernel
  · rw [PyData.shown_tuple, PySem.Str.length_append, PySem.Str.length_append]
    have := join_le (PyData.shownAll ds)
    have e1 : Str.length "(" = 1 := rfl
    have e2 : Str.length (if ds.length == 1 then ",)" else ")" : String) ≤ 2 := by
      split
      · exact Nat.le_refl 2
      · exact Nat.le_succ 1
    omega
  · show PyData.depthAll ds + 1 ≤ m + 1
    omega
  · show (decide (ds.length ≤ 1000) && smalls ds) = true
    rw [h5, Bool.and_true, decide_eq_true_eq]
    omega
/-- what the law's values are -/
structure Okv (d : PyData) : Prop where
  tb : Tb d
  sm : small d = true
  ok : PyData.strOk d.shown = true
theorem Fc.okv {n m : Nat} {d : PyData} (h : Fc n m d) (a : n ≤ 100000) (b : m ≤ 60) : Okv d := ⟨⟨.inl h.nd, h.sh, Nat.le_trans h.sz a, Nat.le_trans h.dp b⟩, h.sm, asc_ok h.asc⟩
theorem okv_d0 : Okv (.dict []) := ⟨⟨.inr rfl, by decide +kernel, by decide +kernel, by decide +kernel⟩, rfl, by decide +kernel⟩
/-- a row [_, _, text] -/
def rowD (b1 b2 : Bool) (s : Str) : PyData := .list [.bool b1, .bool b2, .str s]
theorem row_shaped {b1 b2 : Bool} {s : Str} (h : PyData.strOk s = true) : SeqAt.shaped (rowD b1 b2 s) = true := by
  unfold SeqAt.shaped
  have e : (rowD b1 b2 s).canLay0 = true := by
    show (PyData.strOk s && true) = true
    rw [h]
    rfl
  have dp : (rowD b1 b2 s).depth ≤ 1 := by
    show max 0 (max 0 (max 0 0)) + 1 ≤ 1
    decide
  rw [e, decide_eq_true (Nat.le_trans dp (by decide))]
  rfl
theorem row_eqv (b1 b2 : Bool) (s : Str) : PyData.eqv (rowD b1 b2 s) (rowD b1 b2 s) = true := by
  simp [rowD, PyData.eqv, PyData.eqvAll]
/-! list(text) -/
theorem call_listS {X : Cx} (hc : X.calm = true) : CallR X (.type "list") (fun xs H Q => ∃ x : Str, xs = [.str x] ∧ x.cps.size ≤ sizeLine ∧ ∀ l, H l = none → Q (.ref l) (upd H l (.lst (x.cps.toList.map fun c => V.str ⟨#[c]⟩)))) := by
  intro pins s σ H xs us Q I r h
  obtain ⟨x, rfl, hz, q⟩ := h
  obtain ⟨u, rfl, rx⟩ := vals1 r
  obtain ⟨t, rfl⟩ := rx
  refine call_list_str (I.ok.hd hc) x t (hn := hz) fun h' tk acc' c' kp e it => ?_
  refine ⟨.ref s.heap.objs.size, _, I.laid (t' := tk) kp (Nat.le_refl _) (show ObjOk X.prog X.w _ h' _ (.lst (x.cps.toList.map fun c => V.str ⟨#[c]⟩)) from ⟨?_, acc'.toList, c', ?_, ?_⟩), rfl, q _ (I.hok.fresh (Nat.le_refl _))⟩
  · rw [List.length_map]
    exact hz
  · refine vals_of_at ?_ fun j y w h1 h2 => ?_
    · rw [List.length_map, Array.length_toList, Array.length_toList, it.1]
    · rw [Array.getElem?_toList] at h2
      have hj := (Array.getElem?_eq_some_iff.mp h2).1
      obtain ⟨c, u, hc, e⟩ := it.2 j _ h2
      rw [List.getElem?_map, Array.getElem?_toList, hc] at h1
      cases h1
      subst e
      exact ⟨u, rfl⟩
  · exact e
end K01
set_option maxHeartbeats 4000000
namespace K01
open PySem PySem.Spec PyProof.Rows L2 Evl My LamX
/-! lists one behind the other, wherever they lie -/
def rCatQ (K : PySem.W.Frag) : R2 := fun x y H Q => ∃ l b xs zs, x = .ref l ∧ y = .ref b ∧ SqL K H l xs ∧ SqL K H b zs ∧ xs.length + zs.length ≤ sizeLine ∧ ∀ p, H p = none → Q (.ref p) (upd H p (.lst (xs ++ zs)))
theorem op_catQ {X : Cx} : OpR X (binaryOp .Add) (rCatQ X.K) := by
  intro pins s σ H x y v u Q I rx ry h
  obtain ⟨l, b, xs, zs, rfl, rfl, hl, hb, hz, q⟩ := h
  cases rx
  cases ry
  obtain ⟨its, r, p1, z1⟩ := I.list hl
  obtain ⟨its2, r2, p2, z2⟩ := I.list hb
  obtain ⟨⟨cls, dd, data, sl⟩, ho, hc, n, hd⟩ := p1.isList
  obtain ⟨⟨cls2, dd2, data2, sl2⟩, ho2, hc2, n2, hd2⟩ := p2.isList
  simp only at hc hd hc2 hd2
  subst hc hd hc2 hd2
  have e : its.toArray ++ its2.toArray = (its ++ its2).toArray := by simp
  have sz : (its.toArray ++ its2.toArray).size ≤ sizeLine := by
    rw [Array.size_append, List.size_toArray, List.size_toArray, ← r.length, ← r2.length]
    exact hz
  refine concat_meets ⟨_, ho, rfl⟩ ⟨_, ho2, rfl⟩ noFill_list_add seq_list_add PySem.F.slot_list_add PySem.F.entry_list_add (PySem.F.args_list_add_2 _ _) (list_addW l b its.toArray its2.toArray n n2 dd dd2 sl sl2 (by simpa using sz)) ⟨ho, ho2, ?_⟩
  rw [e]
  exact ⟨.ref _, _, I.lnew (t' := s.toks) (r.append r2) (by rw [List.length_append]; omega), rfl, q _ I.fresh⟩
def rMulS : R2 := fun x y H Q => ∃ a n, x = .str a ∧ y = .int n ∧ MulOk a n ∧ Q (.str (Txt.mul a n)) H
theorem op_mulS {X : Cx} : OpR X (binaryOp .Mult) rMulS := by
  intro pins s σ H x y v u Q I rx ry h
  obtain ⟨a, n, rfl, rfl, hz, q⟩ := h
  obtain ⟨t, rfl⟩ := rx
  obtain ⟨t', rfl⟩ := ry
  exact SB.mul hz fun t'' k => ⟨.str _, H, I.tok _, ⟨_, rfl⟩, q⟩
theorem dds_rep {K : PySem.W.Frag} {H : Hp} {xs : List V} {ds : List PyData} (g : Dds K H xs ds) : ∀ n : Nat, Dds K H (List.replicate n xs).flatten (List.replicate n ds).flatten
  | 0 => .nil
  | n + 1 => by
    rw [List.replicate_succ, List.replicate_succ, List.flatten_cons, List.flatten_cons]
    exact Dds.app g (dds_rep g n)
/-- a value that may make lambdas -/
def EvN (K : PySem.W.Frag) (T : List (Addr × Str)) (te : TE) (σ : L2.St) (H : Hp) (d : PyData) : Prop := ∀ H1, ExtN H H1 → Tabs T H1 → ∀ Q : VK, (∀ v H2, ExtN H1 H2 → Tabs T H2 → Dd K H2 v d → Q v H2) → te σ H1 Q
section
variable {K : PySem.W.Frag} {T : List (Addr × Str)} {tt tu : TT} {ta tb te tl : TE} {tr : TA} {σ : L2.St} {H H' : Hp} {d e : PyData} {ds es : List PyData} {q : Str} {t : XK → TE} {ts tz : TS} {D : Ends} {i j : Nat}
theorem tabs_ext (h : Tabs T H) (e : Ex H H') : Tabs T H' := fun p hp => (h p hp).ext e
theorem ed_catQ (ha : EvD K ta σ H (.list ds)) (hb : EvD K tb σ H (.list es)) (hz : ds.length + es.length ≤ 100000) : EvDL K (tOp (rCatQ K) ta tb) σ H (ds ++ es) := fun H1 e Q q =>
  ha H1 e _ fun v H2 e2 g => hb H2 (e.trans e2) _ fun u H3 e3 gu => by
    cases g with
    | @lst a xs _ hx gx =>
      cases gu with
      | @lst b ys _ hy gy =>
        have hl : xs.length + ys.length ≤ 100000 := by
          rw [gx.len, gy.len]
          exact hz
        exact ⟨a, b, xs, ys, rfl, rfl, ex_l e3 hx, hy, sz_of hl, fun l hn => q l _ _ (fresh_back (e2.trans e3) hn) ((e2.trans e3).trans (Ex.new hn)) upd_same (Dds.app (Dds.ext (e3.trans (Ex.new hn)) _ _ gx) (Dds.ext (Ex.new hn) _ _ gy))⟩
theorem edl_rep {k : Int} (ha : EvDL K ta σ H ds) (hb : ∀ H1, Ex H H1 → Ev tb σ H1 (.int k)) (h : -(2 ^ 63) ≤ k ∧ k < 2 ^ 63) (z : ds.length * k.toNat ≤ 100000) : EvDL K (tOp rRep ta tb) σ H (List.replicate k.toNat ds).flatten := fun H1 e Q q =>
  ha H1 e _ fun l xs H2 _ e2 h2 g => hb H2 (e.trans e2) H2 (Ex.refl H2) _ fun H3 e3 => by
    have zl : xs.length * k.toNat ≤ 100000 := by
      rw [g.len]
      exact z
    exact ⟨l, k, xs, rfl, rfl, e3 l _ h2, h.1, h.2, sz_of zl, fun r hr => q r _ _ (fresh_back (e2.trans e3) hr) ((e2.trans e3).trans (Ex.new hr)) upd_same (dds_rep (Dds.ext (e3.trans (Ex.new hr)) _ _ g) _)⟩
theorem ev_mulS {a : Str} {n : Int} (ha : Ev ta σ H (.str a)) (hb : Ev tb σ H (.int n)) (hz : MulOk a n) : Ev (tOp rMulS ta tb) σ H (.str (Txt.mul a n)) := ev_op ha hb (rv_val fun _ _ _ q => ⟨a, n, rfl, rfl, hz, q⟩)
theorem ed_dnew : EvD K tDNewK σ H (.dict []) := fun H1 e Q q => fun p hp => q (.ref p) _ (Ex.new hp) (.dct upd_same)
theorem ev_reprO (h : EvD K te σ H d) (o : Tb d) : Ev (tCB (rRepr K) (tCons te tNil)) σ H (.str d.shown) := ev_reprD h o.nd o.sh o.sz o.dp
theorem ev_notN {v : V} (ha : Ev ta σ H v) (hb : Ev tb σ H .non) : Ev (tOp (fun x y H Q => y = .non ∧ Q (.bl (!decide (x = .non))) H) ta tb) σ H (.bl (!decide (v = .non))) := ev_op ha hb (rv_val fun _ _ _ q => ⟨rfl, q⟩)
/-! values and tests with doors -/
theorem evN_of (h : ∀ H1, ExtN H H1 → EvD K te σ H1 d) : EvN K T te σ H d := fun H1 e tb Q k => h H1 e H1 (Ex.refl _) Q fun v H2 e2 g => k v H2 (ExtN.of e2) (tabs_ext tb e2) g
theorem evN_kept {cM C1 C2 D1 : Addr} {b1 b2 : Bool} (ef : ErF K cM C1 C2 D1 b1 b2) (o : Tb d) (ht : ∀ (E : XK) H1, ExtN H H1 → Raises K D1 H1 d E → t E σ H1 fun _ _ => False) : EvN K T (tKept K cM C1 C2 T q t) σ H (rowD b1 b2 d.shown) := fun H1 e tabs Q k =>
  ⟨tabs, fun H2 c' e2 tb2 hc => ⟨D1, b1, b2, d, ef, ht _ H2 (e.trans e2) fun dd v' H' e' hx g' => ⟨rfl, dd, v', rfl, hx, g', o, fun u H3 e3 gu => k u H3 (e2.trans ((ExtN.of e').trans (ExtN.of e3))) (tabs_ext (tabs_ext tb2 e') e3) gu⟩⟩⟩
theorem evN_lst (h : EvN K T te σ H d) : EvN K T (tLst (tCons te tNil)) σ H (.list [d]) := fun H1 e tb Q k => h H1 e tb _ fun v H2 e2 t2 g =>
  ⟨(by show 1 ≤ sizeLine; decide), fun p hp => k (.ref p) _ (e2.trans (ExtN.of (Ex.new hp))) (tabs_ext t2 (Ex.new hp)) (.lst (sq_of upd_same) (.cons (Dd.ext (Ex.new hp) _ _ g) .nil))⟩
theorem evN_cat (ha : ∀ H1, ExtN H H1 → EvD K ta σ H1 (.list ds)) (hb : EvN K T tb σ H (.list es)) (hz : ds.length + es.length ≤ 100000) : EvN K T (tOp (rCatQ K) ta tb) σ H (.list (ds ++ es)) := fun H1 e tb1 Q k =>
  ha H1 e H1 (Ex.refl _) _ fun v H2 e2 g => hb H2 (e.trans (ExtN.of e2)) (tabs_ext tb1 e2) _ fun u H3 e3 t3 gu => by
    have g3 := dd_extN e3 _ _ g
    cases g3 with
    | @lst a xs _ hx gx =>
      cases gu with
      | @lst b ys _ hy gy =>
        have hl : xs.length + ys.length ≤ 100000 := by
          rw [gx.len, gy.len]
          exact hz
        exact ⟨a, b, xs, ys, rfl, rfl, hx, hy, sz_of hl, fun l hn => k _ _ ((ExtN.of e2).trans (e3.trans (ExtN.of (Ex.new hn)))) (tabs_ext t3 (Ex.new hn)) (.lst (sq_of upd_same) (Dds.app (Dds.ext (Ex.new hn) _ _ gx) (Dds.ext (Ex.new hn) _ _ gy)))⟩
theorem s_asgN (h : EvN K T te σ H d) (tb : Tabs T H) (k : ∀ v H1, ExtN H H1 → Tabs T H1 → Dd K H1 v d → D.nx (σ.set i (some v)) H1) : tAsg te (gName i) D σ H := h H (ExtN.refl _) tb _ fun v H1 e t g => k v H1 e t g
theorem q_asgN (h : EvN K T te σ H d) (tb : Tabs T H) (k : ∀ v H1, ExtN H H1 → Tabs T H1 → Dd K H1 v d → tz D (σ.set i (some v)) H1) : tSeq (tAsg te (gName i)) tz D σ H := s_asgN (D := { D with nx := tz D }) h tb k
theorem etN_of {b : Bool} (h : ∀ H1, ExtN H H1 → EvT tt σ H1 b) : EtN T tt σ H b := fun H1 e tb Q k => h H1 e H1 (Ex.refl _) Q fun H2 e2 => k H2 (ExtN.of e2) (tabs_ext tb e2)
theorem etN_neD (ha : EvN K T ta σ H d) (hb : ∀ H1, ExtN H H1 → EvD K tb σ H1 d) (n1 : noDict d = true) (s1 : SeqAt.shaped d = true) (eq : PyData.eqv d d = true) : EtN T (tTest (tOp (rNeD K) ta tb)) σ H false := fun H1 x tb1 Q k =>
  ha H1 x tb1 _ fun v H2 e2 t2 g => hb H2 (x.trans e2) H2 (Ex.refl _) _ fun u H3 e3 g2 => ⟨d, d, dp_ofL _ _ n1 (Dd.ext e3 _ _ g), dp_ofL _ _ n1 g2, s1, s1, !PyData.eqv d d, rfl, by
    rw [eq]
    exact k H3 (e2.trans (ExtN.of e3)) (tabs_ext t2 e3)⟩
theorem s_whenN (h : EtN T tt σ H false) (tb : Tabs T H) (k : ∀ H2, ExtN H H2 → Tabs T H2 → D.nx σ H2) : tIfS tt ts tNext D σ H := h H (ExtN.refl H) tb _ fun H2 e2 t2 => by
  show D.nx σ H2
  exact k H2 e2 t2
theorem q_whenN (h : EtN T tt σ H false) (tb : Tabs T H) (k : ∀ H2, ExtN H H2 → Tabs T H2 → tz D σ H2) : tSeq (tIfS tt ts tNext) tz D σ H := s_whenN (D := { D with nx := tz D }) h tb k
/-- a loop over a new list of data whose turns may make lambdas -/
theorem q_forN (h : EvDL K tl σ H ds) (S : L2.St → Prop) (s0 : S σ) (tb0 : Tabs T H)
    (step : ∀ d, d ∈ ds → ∀ v σ' H' D', S σ' → ExtN H H' → Tabs T H' → Dd K H' v d → (∀ σ'' H'', S σ'' → ExtN H' H'' → Tabs T H'' → D'.nx σ'' H'') → (∀ v'' H'', D'.rt v'' H'' = D.rt v'' H'') → ts D' (σ'.set j (some v)) H')
    (done : ∀ σ' H', S σ' → ExtN H H' → Tabs T H' → tz D σ' H') : tSeq (tFor (iList K tl) (gName j) ts) tz D σ H :=
  h H (Ex.refl H) _ fun p xs H1 np e1 hx g => ⟨p, rfl, ⟨xs, sq_of hx⟩, for_list (fun _ σ' H' => S σ' ∧ ExtN H1 H' ∧ Tabs T H') ⟨s0, ExtN.refl _, fun q hq => (tb0 q hq).ext e1⟩
    (fun i σ' H' _ pv => sq_of (pv.2.1 _ _ hx fun _ z => nomatch z))
    (fun i x σ' H' hi pv => by
      obtain ⟨d, hd, gd⟩ := (dds_extN pv.2.1 _ _ g).get hi
      exact step d (List.mem_of_getElem? hd) x σ' H' _ pv.1 ((ExtN.of e1).trans pv.2.1) pv.2.2 gd (fun σ'' H'' s e t => ⟨s, pv.2.1.trans e, t⟩) fun _ _ => rfl)
    (fun σ' H' pv => done σ' H' pv.1 ((ExtN.of e1).trans pv.2.1) pv.2.2)⟩
theorem s_forN (h : EvDL K tl σ H ds) (S : L2.St → Prop) (s0 : S σ) (tb0 : Tabs T H)
    (step : ∀ d, d ∈ ds → ∀ v σ' H' D', S σ' → ExtN H H' → Tabs T H' → Dd K H' v d → (∀ σ'' H'', S σ'' → ExtN H' H'' → Tabs T H'' → D'.nx σ'' H'') → (∀ v'' H'', D'.rt v'' H'' = D.rt v'' H'') → ts D' (σ'.set j (some v)) H')
    (done : ∀ σ' H', S σ' → ExtN H H' → Tabs T H' → D.nx σ' H') : tFor (iList K tl) (gName j) ts D σ H :=
  q_forN (tz := fun D σ H => D.nx σ H) (D := D) h S s0 tb0 step done
theorem sql_extN {a : Addr} {xs : List V} (e : ExtN H H') (h : SqL K H a xs) : SqL K H' a xs := by
  rcases h with (hb | ⟨ob, hb⟩) | hb
  · exact .inl (.inl (e _ _ hb fun _ z => nomatch z))
  · exact .inl (.inr ⟨ob, e _ _ hb fun _ z => nomatch z⟩)
  · exact .inr hb
theorem extN_but {p : Addr} {H0 : Hp} (e : ExtN H0 H) (n : H0 p = none) (b : But p H H') : ExtN H0 H' := fun x o h nt => b x o (ne_of_none h n) (e x o h nt)
end
/-! what the doors ask: the way out is monotone, and it is taken -/
def MT (t : TE) : Prop := ∀ σ H (Q Q' : VK), (∀ v H', Q v H' → Q' v H') → t σ H Q → t σ H Q'
def MA (t : TA) : Prop := ∀ σ H (Q Q' : List V → Hp → Prop), (∀ v H', Q v H' → Q' v H') → t σ H Q → t σ H Q'
def MS (sp : Sp) : Prop := ∀ vs H Q (E E' : XK), (∀ cls dd H', E cls dd H' → E' cls dd H') → sp vs H Q E → sp vs H Q E'
theorem mt_var {i : Nat} : MT (tVar i) := fun σ H Q Q' m ⟨v, h, q⟩ => ⟨v, h, m _ _ q⟩
theorem mt_c {v : V} : MT (tC v) := fun σ H Q Q' m q => m _ _ q
theorem mt_ixL {K : PySem.W.Frag} {ta tb : TE} (ha : MT ta) (hb : MT tb) : MT (tOp (rIxL K) ta tb) := fun σ H Q Q' m h => ha _ _ _ _ (fun v H1 h => hb _ _ _ _ (fun u H2 ⟨a, xs, j, y, h1, h2, h3, h4, q⟩ => ⟨a, xs, j, y, h1, h2, h3, h4, m _ _ q⟩) h) h
theorem mt_catQ {K : PySem.W.Frag} {ta tb : TE} (ha : MT ta) (hb : MT tb) : MT (tOp (rCatQ K) ta tb) := fun σ H Q Q' m h => ha _ _ _ _ (fun v H1 h => hb _ _ _ _ (fun u H2 ⟨l, b, xs, zs, h1, h2, h3, h4, h5, q⟩ => ⟨l, b, xs, zs, h1, h2, h3, h4, h5, fun p hp => m _ _ (q p hp)⟩) h) h
theorem ma_nil : MA tNil := fun σ H Q Q' m q => m _ _ q
theorem ma_cons {t : TE} {tr : TA} (h : MT t) (hr : MA tr) : MA (tCons t tr) := fun σ H Q Q' m q => h _ _ _ _ (fun v H1 q => hr _ _ _ _ (fun vs H2 q => m _ _ q) q) q
theorem rs_mono {K : PySem.W.Frag} {D : Addr} {H : Hp} {d : PyData} {E E' : XK} (m : ∀ cls dd H', E cls dd H' → E' cls dd H') (h : Raises K D H d E) : Raises K D H d E' := fun dd v' H' e hx g => m _ _ _ (h dd v' H' e hx g)
theorem ms_1 {K : PySem.W.Frag} {C D : Addr} {F : List Str → (Str → List Str) → Str → PyData} : MS (sp1 K C D F) := fun vs H Q E E' m ⟨L, v, d, ns, bl, h1, h2, h3, h4, h5, h6⟩ => ⟨L, v, d, ns, bl, h1, h2, h3, h4, h5, fun z => rs_mono m (h6 z)⟩
theorem ms_2 {K : PySem.W.Frag} {C D : Addr} {F : List Str → (Str → List Str) → Str → Str → PyData} : MS (sp2 K C D F) := fun vs H Q E E' m ⟨L, v, u, d, e, ns, bl, h1, h2, h3, h4, h5, h6, h7, h8⟩ => ⟨L, v, u, d, e, ns, bl, h1, h2, h3, h4, h5, h6, fun z => rs_mono m (h7 z), fun y z => rs_mono m (h8 y z)⟩
theorem ms_i {K : PySem.W.Frag} {C D : Addr} : MS (spInit K C D) := fun vs H Q E E' m ⟨L, dx, v, u, d, e, h1, h2, h3, h4, h5, h6, h7, h8, h9⟩ => ⟨L, dx, v, u, d, e, h1, h2, h3, h4, h5, h6, h7, fun z => rs_mono m (h8 z), fun y z => rs_mono m (h9 y z)⟩
theorem tm_meth {C : Addr} {m : Str} {sp : Sp} {ta : TE} {t : TA} (hs : MS sp) (ha : MT ta) (ht : MA t) : ∀ (E E' : XK) σ H, (∀ cls dd H', E cls dd H' → E' cls dd H') → tMeth C m sp [] E ta t σ H (fun _ _ => False) → tMeth C m sp [] E' ta t σ H (fun _ _ => False) := fun E E' σ H mo h =>
  ha _ _ _ _ (fun x H1 ⟨a, dx, fs, h1, h2, h3, q⟩ => ⟨a, dx, fs, h1, h2, h3, ht _ _ _ _ (fun vs H2 q => hs _ _ _ _ _ mo q) q⟩) h
theorem tm_make {C : Addr} {sp : Sp} {t : TA} (hs : MS sp) (ht : MA t) : ∀ (E E' : XK) σ H, (∀ cls dd H', E cls dd H' → E' cls dd H') → tMake C sp [] E t σ H (fun _ _ => False) → tMake C sp [] E' t σ H (fun _ _ => False) := fun E E' σ H mo h =>
  ht _ _ _ _ (fun vs H1 q x dx n1 n2 n3 => hs _ _ _ _ _ mo (q x dx n1 n2 n3)) h
section
variable {K : PySem.W.Frag} {C D L : Addr} {σ : L2.St} {H : Hp} {ns : List Str} {bl : Str → List Str} {d d1 d2 : PyData} {E : XK} {ta : TE} {t : TA} {m : Str}
theorem rs_ext {H' : Hp} (e : Ex H H') (h : Raises K D H d E) : Raises K D H' d E := fun dd v' H2 e2 hx g => h dd v' H2 (e.trans e2) hx g
theorem go_m1 {F : List Str → (Str → List Str) → Str → PyData} (hm : ∀ x y : V, List.lookup m [(("order" : Str), x), ("below", y)] = none) (lv : LvAt C H L ns bl) (ok : LvOk ns bl) (ha : Ev ta σ H (.ref L)) (a : EvDs K t σ H [d]) (no : hasD ns d = false) (hE : Raises K D H d E) : tMeth C m (sp1 K C D F) [] E ta t σ H fun _ _ => False :=
  ha H (Ex.refl _) _ fun H1 e1 => by
    obtain ⟨dx, o, b, h1, h2, h3⟩ := lv.ext e1
    refine ⟨L, dx, _, rfl, h1, hm _ _, a H1 e1 _ fun vs H2 e2 g => ?_⟩
    cases g with
    | cons g1 g2 =>
      cases g2
      exact ⟨L, _, d, ns, bl, rfl, lv.ext (e1.trans e2), ok, g1, (fun z => by rw [no] at z; cases z), fun _ => rs_ext (e1.trans e2) hE⟩
theorem go_m2a {F : List Str → (Str → List Str) → Str → Str → PyData} (hm : ∀ x y : V, List.lookup m [(("order" : Str), x), ("below", y)] = none) (lv : LvAt C H L ns bl) (ok : LvOk ns bl) (ha : Ev ta σ H (.ref L)) (a : EvDs K t σ H [d1, d2]) (no : hasD ns d1 = false) (hE : Raises K D H d1 E) : tMeth C m (sp2 K C D F) [] E ta t σ H fun _ _ => False :=
  ha H (Ex.refl _) _ fun H1 e1 => by
    obtain ⟨dx, o, b, h1, h2, h3⟩ := lv.ext e1
    refine ⟨L, dx, _, rfl, h1, hm _ _, a H1 e1 _ fun vs H2 e2 g => ?_⟩
    cases g with
    | cons g1 g2 =>
      cases g2 with
      | cons g2 g3 =>
        cases g3
        exact ⟨L, _, _, d1, d2, ns, bl, rfl, lv.ext (e1.trans e2), ok, g1, g2, (fun z => by rw [no] at z; cases z), (fun _ => rs_ext (e1.trans e2) hE), fun z => by rw [no] at z; cases z⟩
theorem go_m2b {F : List Str → (Str → List Str) → Str → Str → PyData} (hm : ∀ x y : V, List.lookup m [(("order" : Str), x), ("below", y)] = none) (lv : LvAt C H L ns bl) (ok : LvOk ns bl) (ha : Ev ta σ H (.ref L)) (a : EvDs K t σ H [d1, d2]) (yes : hasD ns d1 = true) (no : hasD ns d2 = false) (hE : Raises K D H d2 E) : tMeth C m (sp2 K C D F) [] E ta t σ H fun _ _ => False :=
  ha H (Ex.refl _) _ fun H1 e1 => by
    obtain ⟨dx, o, b, h1, h2, h3⟩ := lv.ext e1
    refine ⟨L, dx, _, rfl, h1, hm _ _, a H1 e1 _ fun vs H2 e2 g => ?_⟩
    cases g with
    | cons g1 g2 =>
      cases g2 with
      | cons g2 g3 =>
        cases g3
        exact ⟨L, _, _, d1, d2, ns, bl, rfl, lv.ext (e1.trans e2), ok, g1, g2, (fun _ z => by rw [no] at z; cases z), (fun z => by rw [yes] at z; cases z), fun _ _ => rs_ext (e1.trans e2) hE⟩
theorem go_i (a : EvDs K t σ H [d1, d2]) (s1 : small d1 = true) (s2 : small d2 = true) (h : (namesD d1 = false ∧ Raises K D H d1 E) ∨ (namesD d1 = true ∧ pairsB ((seqOf d1).map strD) d2 = false ∧ Raises K D H d2 E)) : tMake C (spInit K C D) [] E t σ H fun _ _ => False :=
  a H (Ex.refl _) _ fun vs H1 e1 g x dx n1 n2 n3 => by
    have e2 : Ex H1 (upd (upd H1 dx (.own x)) x (.ins C dx [])) := (Ex.new n2).trans (Ex.new (by rw [upd_ne (Ne.symm n3)]; exact n1))
    cases g with
    | cons g1 g2 =>
      cases g2 with
      | cons g2 g3 =>
        cases g3
        refine ⟨x, dx, _, _, d1, d2, rfl, upd_same, Dd.ext e2 _ _ g1, s1, Dd.ext e2 _ _ g2, s2, ?_, ?_, ?_⟩
        · intro y z
          rcases h with ⟨h1, _⟩ | ⟨_, h1, _⟩
          · rw [h1] at y
            cases y
          · rw [h1] at z
            cases z
        · intro z
          rcases h with ⟨_, h1⟩ | ⟨h1, _⟩
          · exact rs_ext (e1.trans e2) h1
          · rw [h1] at z
            cases z
        · intro z _
          rcases h with ⟨h1, _⟩ | ⟨_, _, h1⟩
          · rw [h1] at z
            cases z
          · exact rs_ext (e1.trans e2) h1
end
theorem lamPass {X : Cx} {A : Around} {outer : List Env} {s : Shared} {H : Hp} {E : XK} {scope : Scope} {f c' : Addr} : Passes (L2.CX (lamCx X A outer s H E scope f c').prog (lamCx X A outer s H E scope f c').w) (lamCx X A outer s H E scope f c') E :=
  L2.passes_call (L2.takes_of rfl rfl rfl rfl) fun _ _ _ _ h => h
end K01
set_option maxHeartbeats 8000000
namespace K01
open PySem PySem.Spec PyProof.Rows L2 Evl My LamX
def noLv1 (ns : List Str) : List PyData := [.none, .int 5, .str "low", .list [], .tuple [], .dict [], .list (txts ns ++ txts (ns.take 1)), .list (txts ns ++ [.str ""]), .list (txts ns ++ [.str "Low"]), .list (txts ns ++ [.int 5]), .list [.none]]
def abc : List Str := ["a", "b", "c", "d", "e", "f", "g", "h", "i"]
theorem abc_eq : (("abcdefghi" : Str).cps.toList.map fun c => (⟨#[c]⟩ : Str)) = abc := by decide +kernel
theorem abc_is : (("abcdefghi" : Str).cps.toList.map fun c => PyData.str ⟨#[c]⟩) = txts abc := by
  rw [← abc_eq]
  unfold txts
  rw [List.map_map]
  rfl
def noLv2 : List PyData := [.list [.str "aaaaaaaaa"], .list [.str "a b"], .list [.list [.str "low"]], .list (txts abc), .list [.str "low", .str "low"]]
def noLv (ns : List Str) : List PyData := noLv1 ns ++ noLv2
theorem fc_txts {ns : List Str} (N : NamesOk ns) : ∀ d ∈ txts ns, Fc 92 1 d := fun d hd => by
  obtain ⟨s, hs, rfl⟩ := List.mem_map.mp hd
  exact fc_word (N.word s hs)
theorem len_txts (ns : List Str) : (txts ns).length = ns.length := by
  unfold txts
  rw [List.length_map]
theorem strs_txts (ns : List Str) : (txts ns).map strD = ns := by
  unfold txts
  rw [List.map_map]
  exact List.map_id'' (fun s => rfl) ns
theorem fc_low : Fc 92 1 (.str "low") := fc_str (by decide +kernel) (by decide +kernel)
theorem okv_l {n : Nat} {ds : List PyData} (h : ∀ d ∈ ds, Fc 1131 2 d) (hl : ds.length ≤ 12) : Okv (.list ds) := (fc_list h hl).okv (by decide) (by decide)
theorem Fc.up {d : PyData} (h : Fc 92 1 d) : Fc 1131 2 d := h.mono (by decide) (by decide)
theorem names_app {ns : List Str} {d : PyData} (h : wordD d = false) : namesD (.list (txts ns ++ [d])) = false := by
  unfold namesD
  rw [show seqOf (.list (txts ns ++ [d])) = txts ns ++ [d] from rfl, List.all_append, List.all_cons, h]
  simp
theorem noLv_bad {ns : List Str} (N : NamesOk ns) : ∀ d ∈ noLv ns, namesD d = false ∧ Okv d := by
  have f := fc_txts N
  have n1 := N.one
  have n8 := N.eight
  have cat : ∀ {e : PyData}, Fc 92 1 e → Okv (.list (txts ns ++ [e])) := fun {e} he => okv_l (n := 0) (fun d hd => by
    rcases List.mem_append.mp hd with z | z
    · exact (f d z).up
    · rw [List.mem_singleton.mp z]
      exact he.up) (by rw [List.length_append, len_txts]; show ns.length + 1 ≤ 12; omega)
  have one : ∀ {e : PyData}, Fc 1131 2 e → Okv (.list [e]) := fun {e} he => okv_l (n := 0) (fun d hd => by
    rw [List.mem_singleton.mp hd]
    exact he) (by show 1 ≤ 12; decide)
  intro d hd
  rcases List.mem_append.mp hd with hd | hd
  · rcases List.mem_cons.mp hd with rfl | hd
    · exact ⟨rfl, fc_non.okv (by decide) (by decide)⟩
    rcases List.mem_cons.mp hd with rfl | hd
    · exact ⟨rfl, fc_int5.okv (by decide) (by decide)⟩
    rcases List.mem_cons.mp hd with rfl | hd
    · exact ⟨rfl, fc_low.okv (by decide) (by decide)⟩
    rcases List.mem_cons.mp hd with rfl | hd
    · exact ⟨rfl, fc_l0.okv (by decide) (by decide)⟩
    rcases List.mem_cons.mp hd with rfl | hd
    · exact ⟨rfl, fc_t0.okv (by decide) (by decide)⟩
    rcases List.mem_cons.mp hd with rfl | hd
    · exact ⟨rfl, okv_d0⟩
    rcases List.mem_cons.mp hd with rfl | hd
    · refine ⟨?_, okv_l (n := 0) (fun d hd => ?_) (by rw [List.length_append, len_txts, len_txts, List.length_take]; omega)⟩
      · unfold namesD difD
        rw [show seqOf (.list (txts ns ++ txts (ns.take 1))) = txts ns ++ txts (ns.take 1) from rfl, List.map_append, strs_txts, strs_txts]
        have nd : ¬ (ns ++ ns.take 1).Nodup := fun h => by
          match ns, n1, h with
          | x :: r, _, h =>
            have := (List.nodup_append.mp h).2.2 x (List.mem_cons_self ..) x (List.mem_cons_self ..)
            exact this rfl
        rw [decide_eq_false nd, Bool.and_false, Bool.and_false]
      · rcases List.mem_append.mp hd with z | z
        · exact (f d z).up
        · obtain ⟨s, hs, rfl⟩ := List.mem_map.mp z
          exact (fc_word (N.word s (List.mem_of_mem_take hs))).up
    rcases List.mem_cons.mp hd with rfl | hd
    · exact ⟨names_app (by decide +kernel), cat (fc_str (by decide +kernel) (by decide +kernel))⟩
    rcases List.mem_cons.mp hd with rfl | hd
    · exact ⟨names_app (by decide +kernel), cat (fc_str (by decide +kernel) (by decide +kernel))⟩
    rcases List.mem_cons.mp hd with rfl | hd
    · exact ⟨names_app (by decide +kernel), cat fc_int5⟩
    rw [List.mem_singleton.mp hd]
    exact ⟨by decide +kernel, one fc_non.up⟩
  · rcases List.mem_cons.mp hd with rfl | hd
    · exact ⟨by decide +kernel, one (fc_str (by decide +kernel) (by decide +kernel)).up⟩
    rcases List.mem_cons.mp hd with rfl | hd
    · exact ⟨by decide +kernel, one (fc_str (by decide +kernel) (by decide +kernel)).up⟩
    rcases List.mem_cons.mp hd with rfl | hd
    · exact ⟨by decide +kernel, one (fc_list (n := 92) (m := 1) (fun d hd => by
        rw [List.mem_singleton.mp hd]
        exact fc_low) (by decide))⟩
    rcases List.mem_cons.mp hd with rfl | hd
    · refine ⟨by decide +kernel, okv_l (n := 0) (fun d hd => ?_) (by decide +kernel)⟩
      obtain ⟨s, hs, rfl⟩ := List.mem_map.mp hd
      exact (fc_str ((by decide +kernel : ∀ s ∈ abc, AscS s) s hs) ((by decide +kernel : ∀ s ∈ abc, s.length ≤ 9) s hs)).up
    rw [List.mem_singleton.mp hd]
    exact ⟨by decide +kernel, okv_l (n := 0) (fun d hd => by
      rcases List.mem_cons.mp hd with rfl | hd
      · exact fc_low.up
      rw [List.mem_singleton.mp hd]
      exact fc_low.up) (by decide)⟩
abbrev sNo : Stmt := top 23
theorem scNo : FnScope ["_law_names", "_law_some"] ["_law_names"] (defScope sNo) := ⟨rfl, rfl, rfl, by decide +kernel, rfl, by decide +kernel, by decide +kernel⟩
def spNo (K : PySem.W.Frag) : Sp := fun vs H Q _ => ∃ (a : Addr) (ns : List Str), vs = [.ref a] ∧ SqL K H a (ns.map V.str) ∧ NamesOk ns ∧ ∀ u H', Ex H H' → Dd K H' u (.list (noLv ns)) → Q u H'
section
variable {K : PySem.W.Frag} {σ : L2.St} {H : Hp} {ta tb te : TE} {d e : PyData} {ds : List PyData}
theorem edl_listS {x : Str} (h : Ev te σ H (.str x)) (hz : x.length ≤ 100000) : EvDL K (tCB (fun xs H Q => ∃ x : Str, xs = [.str x] ∧ x.cps.size ≤ sizeLine ∧ ∀ l, H l = none → Q (.ref l) (upd H l (.lst (x.cps.toList.map fun c => V.str ⟨#[c]⟩)))) (tCons te tNil)) σ H (x.cps.toList.map fun c => PyData.str ⟨#[c]⟩) := fun H1 e1 Q q =>
  h H1 e1 _ fun H2 e2 => ⟨x, rfl, sz_of hz, fun l hl => q l _ _ (fresh_back e2 hl) (e2.trans (Ex.new hl)) upd_same (by
    have z : ∀ cs : List Nat, Dds K (upd H2 l (.lst (x.cps.toList.map fun c => V.str ⟨#[c]⟩))) (cs.map fun c => V.str ⟨#[c]⟩) (cs.map fun c => PyData.str ⟨#[c]⟩) := fun cs => by
      induction cs with
      | nil => exact .nil
      | cons c cs ih => exact .cons (.str _) ih
    exact z _)⟩
theorem ed_cut1 {p : Addr} {ns : List Str} {n : Int} (h : Ev ta σ H (.ref p)) (hp : SqL K H p (ns.map V.str)) (hb : ∀ H1, Ex H H1 → Ev tb σ H1 (.int n)) (h0 : 0 ≤ n) (h1 : n ≤ ns.length) : EvD K (L2.tSl (rSlL K) ta tNoPart (tPart tb)) σ H (.list (txts (ns.take n.toNat))) := fun H1 e1 Q q =>
  h H1 e1 _ fun H2 e2 => hb H2 (e1.trans e2) H2 (Ex.refl _) _ fun H3 e3 => ⟨n, rfl, p, _, rfl, ex_l (e1.trans (e2.trans e3)) hp, fun r hr => by
    rw [cut_take h0 (by rw [List.length_map]; exact h1), ← List.map_take]
    exact q _ _ ((e2.trans e3).trans (Ex.new hr)) (.lst (sq_of upd_same) (Dds.strs _))⟩
end
section
variable {P : Program} {w : World} {K : PySem.W.Frag} {mg : Str → Option Value} {base : Heap} {f : Addr} {fd : FuncData}
theorem ok_no (F : Fun K "_law_no_levels" "_law_no_levels" sNo f fd) (T : Txt mg) : FnOk P w K mg base CX0 1 f fd ["_law_names"] (spNo K) := by
  refine F.ok scNo (fun vs H Q E h => ?_) (fun cdv A outer s H vs Q E hr h => ?_)
  · obtain ⟨a, ns, rfl, _⟩ := h
    rfl
  · obtain ⟨a, ns, rfl, ha, N, kQ⟩ := h
    refine ⟨_, PSs.nox (pss_cons (ps_set (i := 1) scNo.nd rfl (Or.inl rfl) (pe_lst (pa_cons pe_non (pa_cons pe_int (pa_cons pe_str (pa_cons (pe_lstB pa_nil) (pa_cons (pe_tup pa_nil) (pa_cons pe_dnewK (pa_cons (pe_op op_catQ (pv 0) (pe_slice sl_list (pv 0) po_none (po_some pe_int))) (pa_cons (pe_op op_catQ (pv 0) (pe_lstB (pa_cons pe_str pa_nil))) (pa_cons (pe_op op_catQ (pv 0) (pe_lstB (pa_cons pe_str pa_nil))) (pa_cons (pe_op op_catQ (pv 0) (pe_lstB (pa_cons pe_int pa_nil))) (pa_cons (pe_lstB (pa_cons pe_non pa_nil)) pa_nil)))))))))))))
      (pss_one (ps_ret (pe_op op_catQ (pv 1) (pe_lst (pa_cons (pe_lstB (pa_cons (pe_op op_mulS pe_str pe_int) pa_nil)) (pa_cons (pe_lstB (pa_cons pe_str pa_nil)) (pa_cons (pe_lstB (pa_cons (pe_lstB (pa_cons pe_str pa_nil)) pa_nil)) (pa_cons (pe_callTy (call_listS rfl) (by rfl) T.lst (by decide +kernel) (pa_cons pe_str pa_nil)) (pa_cons (pe_lstB (pa_cons pe_str (pa_cons pe_str pa_nil))) pa_nil)))))))))), ?_⟩
    have n8 := N.eight
    have hv : EvD K (tVar 0) (start ["_law_names", "_law_some"] [.ref a]) H (.list (txts ns)) := ed_var rfl (.lst ha (Dds.strs _))
    have cat : ∀ {tb : TE} {es : List PyData}, es.length ≤ 8 → EvD K tb (start ["_law_names", "_law_some"] [.ref a]) H (.list es) → EvD K (tOp (rCatQ K) (tVar 0) tb) (start ["_law_names", "_law_some"] [.ref a]) H (.list (txts ns ++ es)) := fun {tb es} hl hb => ed_ofL (ed_catQ hv hb (by rw [len_txts]; omega))
    refine q_asgDL (K := K) (ds := noLv1 ns) (edl_lst (eds_cons (ed_non ev_c) (eds_cons (ed_int ev_c) (eds_cons (ed_str ev_c) (eds_cons (ed_lst eds_nil (by simp)) (eds_cons (ed_tup eds_nil (by simp)) (eds_cons ed_dnew
      (eds_cons (cat (by rw [len_txts, List.length_take]; omega) (ed_cut1 (n := 1) (ev_var rfl) ha (fun _ _ => ev_c) (by decide) (by have := N.one; omega)))
      (eds_cons (cat (by decide) (ed_lst (eds_cons (ed_str ev_c) eds_nil) (by simp))) (eds_cons (cat (by decide) (ed_lst (eds_cons (ed_str ev_c) eds_nil) (by simp))) (eds_cons (cat (by decide) (ed_lst (eds_cons (ed_int ev_c) eds_nil) (by simp))) (eds_cons (ed_lst (eds_cons (ed_non ev_c) eds_nil) (by simp)) eds_nil))))))))))) (by show 11 ≤ 100000; decide)) fun p xs H1 np e1 hp gp => ?_
    refine s_retD (ed_ofL (ed_catQ (ed_var rfl (.lst (sq_of hp) gp)) (ed_ofL (ds := noLv2) (edl_lst (eds_cons (ed_lst (eds_cons (ed_str (ev_is (w := .str "aaaaaaaaa") (ev_mulS ev_c ev_c (mulOk_of 1 9 (by decide) (by decide) (by decide) (by decide) (by decide))) (by decide +kernel))) eds_nil) (by simp))
      (eds_cons (ed_lst (eds_cons (ed_str ev_c) eds_nil) (by simp)) (eds_cons (ed_lst (eds_cons (ed_lst (eds_cons (ed_str ev_c) eds_nil) (by simp)) eds_nil) (by simp)) (eds_cons (ed_is (ed_ofL (edl_listS (x := "abcdefghi") ev_c (by decide +kernel))) (by rw [abc_is])) (eds_cons (ed_lst (eds_cons (ed_str ev_c) (eds_cons (ed_str ev_c) eds_nil)) (by simp)) eds_nil))))) (by decide))) (by show 11 + 5 ≤ 100000; decide))) fun u H2 e2 gu => kQ u H2 (e1.trans e2) gu
end
end K01
set_option maxHeartbeats 8000000
namespace K01
open PySem PySem.Spec PyProof.Rows L2 Evl My LamX
theorem head_mem {ns : List Str} (h : 1 ≤ ns.length) : ns.headD "" ∈ ns := by
  cases ns with
  | nil => cases h
  | cons x r => exact List.mem_cons_self ..
def badL (ns : List Str) : List PyData := [.none, .int 5, .str "other", .list [], .dict [], .tuple [.str (ns.headD "")]]
theorem badL_ok {ns : List Str} (N : NamesOk ns) (R : Drn ns) : ∀ d ∈ badL ns, hasD ns d = false ∧ Okv d := by
  intro d hd
  rcases List.mem_cons.mp hd with rfl | hd
  · exact ⟨rfl, fc_non.okv (by decide) (by decide)⟩
  rcases List.mem_cons.mp hd with rfl | hd
  · exact ⟨rfl, fc_int5.okv (by decide) (by decide)⟩
  rcases List.mem_cons.mp hd with rfl | hd
  · refine ⟨?_, (fc_str (by decide +kernel) (by decide +kernel)).okv (by decide) (by decide)⟩
    show (true && decide (("other" : Str) ∈ ns)) = false
    rw [decide_eq_false fun m => (R _ m).1 rfl]
    rfl
  rcases List.mem_cons.mp hd with rfl | hd
  · exact ⟨rfl, fc_l0.okv (by decide) (by decide)⟩
  rcases List.mem_cons.mp hd with rfl | hd
  · exact ⟨rfl, okv_d0⟩
  rw [List.mem_singleton.mp hd]
  refine ⟨rfl, (fc_tup (n := 92) (m := 1) (fun d hd => ?_) (by show 1 ≤ 12; decide)).okv (by decide) (by decide)⟩
  rw [List.mem_singleton.mp hd]
  exact fc_word (N.word _ (head_mem N.one))
abbrev sDoors : Stmt := top 24
theorem scDoors : FnScope ["_law_levels", "_law_names", "_law_bad", "_law_doors"] ["_law_levels", "_law_names"] (defScope sDoors) := ⟨rfl, rfl, rfl, by decide +kernel, rfl, by decide +kernel, by decide +kernel⟩
def spDoors (K : PySem.W.Frag) (C : Addr) (T : List (Addr × Str)) : Sp := fun vs H Q _ => ∃ (L a : Addr) (ns : List Str) (bl : Str → List Str), vs = [.ref L, .ref a] ∧ LvAt C H L ns bl ∧ LvOk ns bl ∧ SqL K H a (ns.map V.str) ∧ Drn ns ∧ Tabs T H ∧ ∀ H', ExtN H H' → Tabs T H' → Q (.bl true) H'
theorem rows_eqv (r : PyData) (h : PyData.eqv r r = true) : PyData.eqv (.list (List.replicate 9 r)) (.list (List.replicate 9 r)) = true := by
  simp [List.replicate, PyData.eqv, PyData.eqvAll, h]
theorem rows_shaped (b1 b2 : Bool) {s : Str} (h : PyData.strOk s = true) : SeqAt.shaped (.list (List.replicate 9 (rowD b1 b2 s))) = true := by
  have rc : (rowD b1 b2 s).canLay0 = true := by
    show (PyData.strOk s && true) = true
    rw [h]
    rfl
  have e : (PyData.list (List.replicate 9 (rowD b1 b2 s))).canLay0 = true := by
    show PyData.canLayAll0 (List.replicate 9 (rowD b1 b2 s)) = true
    simp [List.replicate, PyData.canLayAll0, rc]
  have dp : (PyData.list (List.replicate 9 (rowD b1 b2 s))).depth ≤ 2 := by
    have : (rowD b1 b2 s).depth = 1 := rfl
    simp [List.replicate, PyData.depth, PyData.depthAll, this]
  unfold SeqAt.shaped
  rw [e, decide_eq_true (Nat.le_trans dp (by decide))]
  rfl
section
variable {P : Program} {w : World} {K : PySem.W.Frag} {mg : Str → Option Value} {base : Heap} {f C D D1 cM c Pt : Addr} {T : List (Addr × Str)} {oc : Value} {od an : Option Addr} {osl : Array (Option Value)} {kV doc pm ct : Value}
theorem ok_doors (lk : K.lookup f = some ⟨oc, od, .func (PySem.W.fnOf "_law_doors_right" "_law_doors_right" (defArgs sDoors) (defBody sDoors) (defScope sDoors) .none kV doc pm an (.ref c) ct), osl⟩) (code : PySem.W.codeIn K (.ref c) "_law_doors_right" = true)
    (R : Kf P w K mg base cM D1 D) (TB : TabB base mg c Pt) (hmT : (Pt, ("_law_doors_right" : Str) ++ ".<locals>." ++ "<lambda>") ∈ T) (hu : ∀ p ∈ T, p.1 = Pt → p.2 = ("_law_doors_right" : Str) ++ ".<locals>." ++ "<lambda>")
    (M : Lms P w K mg base C D) :
    FnG P w K mg base CX0 7 f (PySem.W.fnOf "_law_doors_right" "_law_doors_right" (defArgs sDoors) (defBody sDoors) (defScope sDoors) .none kV doc pm an (.ref c) ct) ["_law_levels", "_law_names"] (spDoors K C T) := by
  refine FnG.byBodyAt lk code scDoors (fun vs H Q E h => ?_) (fun A outer s H vs Q E hg hr h => ?_)
  · obtain ⟨L, a, ns, bl, rfl, _⟩ := h
    rfl
  · obtain ⟨L, a, ns, bl, rfl, lv, ok, ha, dr, tb, kQ⟩ := h
    have hrk : Room 6 _ := hr
    have hr1 : Room 1 _ := hr.mono (by decide)
    have hun : (A.deeper (envOfC "_law_doors_right" (defScope sDoors) s.heap.objs.size f (.ref c))).units + 200 < cLine := by
      have := hr.un
      omega
    refine ⟨_, PSs.nox (pss_cons (ps_for PassesOwn.never rfl (pi_list (pe_lst (pa_cons pe_non (pa_cons pe_int (pa_cons pe_str (pa_cons (pe_lstB pa_nil) (pa_cons pe_dnewK (pa_cons (pe_tup (pa_cons (pe_ix ix_list (pv 1) pe_int (fun _ _ => rfl)) pa_nil)) pa_nil)))))))) (pg_name (i := 2) scDoors.nd rfl (Or.inr rfl)) (pss_cons (ps_set (i := 3) scDoors.nd rfl (Or.inl rfl) (pe_lst (pa_cons (pe_kept (T := T) (t := fun E => tMeth C "check" (sp1 K C D (fun _ _ _ => .none)) [] E (tVar 0) (tCons (tVar 2) tNil)) R rfl rfl hg hrk rfl TB rfl hmT hu (by exact lamS_by (sc := defScope sDoors) (by decide +kernel)) rfl (fun _ _ _ _ _ => rfl) (fun A outer s H E f c' r => pe_mx M.check M.c.cl (r.mono (by decide)) lamPass (pv 0) (pa_cons (pv 2) pa_nil)) (tm_meth ms_1 mt_var (ma_cons mt_var ma_nil))) pa_nil)))
      (pss_cons (ps_set (i := 3) scDoors.nd rfl (Or.inl rfl) (pe_op op_catQ (pv 3) (pe_lst (pa_cons (pe_kept (T := T) (t := fun E => tMeth C "downs" (sp1 K C D (fun _ bl a => .list (txts (bl a)))) [] E (tVar 0) (tCons (tVar 2) tNil)) R rfl rfl hg hrk rfl TB rfl hmT hu (by exact lamS_by (sc := defScope sDoors) (by decide +kernel)) rfl (fun _ _ _ _ _ => rfl) (fun A outer s H E f c' r => pe_mx M.downs M.c.cl (r.mono (by decide)) lamPass (pv 0) (pa_cons (pv 2) pa_nil)) (tm_meth ms_1 mt_var (ma_cons mt_var ma_nil))) pa_nil))))
      (pss_cons (ps_set (i := 3) scDoors.nd rfl (Or.inl rfl) (pe_op op_catQ (pv 3) (pe_lst (pa_cons (pe_kept (T := T) (t := fun E => tMeth C "ups" (sp1 K C D (fun ns bl a => .list (txts (ns.filter fun w => decide (a ∈ bl w))))) [] E (tVar 0) (tCons (tVar 2) tNil)) R rfl rfl hg hrk rfl TB rfl hmT hu (by exact lamS_by (sc := defScope sDoors) (by decide +kernel)) rfl (fun _ _ _ _ _ => rfl) (fun A outer s H E f c' r => pe_mx M.ups M.c.cl (r.mono (by decide)) lamPass (pv 0) (pa_cons (pv 2) pa_nil)) (tm_meth ms_1 mt_var (ma_cons mt_var ma_nil))) pa_nil))))
      (pss_cons (ps_set (i := 3) scDoors.nd rfl (Or.inl rfl) (pe_op op_catQ (pv 3) (pe_lst (pa_cons (pe_kept (T := T) (t := fun E => tMeth C "leq" (sp2 K C D (fun _ bl a b => .bool (decide (a ∈ bl b)))) [] E (tVar 0) (tCons (tVar 2) (tCons (tC .non) tNil))) R rfl rfl hg hrk rfl TB rfl hmT hu (by exact lamS_by (sc := defScope sDoors) (by decide +kernel)) rfl (fun _ _ _ _ _ => rfl) (fun A outer s H E f c' r => pe_mx M.leq M.c.cl (r.mono (by decide)) lamPass (pv 0) (pa_cons (pv 2) (pa_cons pe_non pa_nil))) (tm_meth ms_2 mt_var (ma_cons mt_var (ma_cons mt_c ma_nil)))) pa_nil))))
      (pss_cons (ps_set (i := 3) scDoors.nd rfl (Or.inl rfl) (pe_op op_catQ (pv 3) (pe_lst (pa_cons (pe_kept (T := T) (t := fun E => tMeth C "leq" (sp2 K C D (fun _ bl a b => .bool (decide (a ∈ bl b)))) [] E (tVar 0) (tCons (tOp (rIxL K) (tVar 1) (tC (.int 0))) (tCons (tVar 2) tNil))) R rfl rfl hg hrk rfl TB rfl hmT hu (by exact lamS_by (sc := defScope sDoors) (by decide +kernel)) rfl (fun _ _ _ _ _ => rfl) (fun A outer s H E f c' r => pe_mx M.leq M.c.cl (r.mono (by decide)) lamPass (pv 0) (pa_cons (pe_ix ix_list (pv 1) pe_int (fun _ _ => rfl)) (pa_cons (pv 2) pa_nil))) (tm_meth ms_2 mt_var (ma_cons (mt_ixL mt_var mt_c) (ma_cons mt_var ma_nil)))) pa_nil))))
      (pss_cons (ps_set (i := 3) scDoors.nd rfl (Or.inl rfl) (pe_op op_catQ (pv 3) (pe_lst (pa_cons (pe_kept (T := T) (t := fun E => tMeth C "above" (sp2 K C D (fun _ bl a b => .bool (!decide (a = b) && decide (b ∈ bl a)))) [] E (tVar 0) (tCons (tOp (rIxL K) (tVar 1) (tC (.int 0))) (tCons (tVar 2) tNil))) R rfl rfl hg hrk rfl TB rfl hmT hu (by exact lamS_by (sc := defScope sDoors) (by decide +kernel)) rfl (fun _ _ _ _ _ => rfl) (fun A outer s H E f c' r => pe_mx M.above M.c.cl (r.mono (by decide)) lamPass (pv 0) (pa_cons (pe_ix ix_list (pv 1) pe_int (fun _ _ => rfl)) (pa_cons (pv 2) pa_nil))) (tm_meth ms_2 mt_var (ma_cons (mt_ixL mt_var mt_c) (ma_cons mt_var ma_nil)))) pa_nil))))
      (pss_cons (ps_set (i := 3) scDoors.nd rfl (Or.inl rfl) (pe_op op_catQ (pv 3) (pe_lst (pa_cons (pe_kept (T := T) (t := fun E => tMeth C "above" (sp2 K C D (fun _ bl a b => .bool (!decide (a = b) && decide (b ∈ bl a)))) [] E (tVar 0) (tCons (tVar 2) (tCons (tOp (rIxL K) (tVar 1) (tC (.int 0))) tNil))) R rfl rfl hg hrk rfl TB rfl hmT hu (by exact lamS_by (sc := defScope sDoors) (by decide +kernel)) rfl (fun _ _ _ _ _ => rfl) (fun A outer s H E f c' r => pe_mx M.above M.c.cl (r.mono (by decide)) lamPass (pv 0) (pa_cons (pv 2) (pa_cons (pe_ix ix_list (pv 1) pe_int (fun _ _ => rfl)) pa_nil))) (tm_meth ms_2 mt_var (ma_cons mt_var (ma_cons (mt_ixL mt_var mt_c) ma_nil)))) pa_nil))))
      (pss_cons (ps_set (i := 3) scDoors.nd rfl (Or.inl rfl) (pe_op op_catQ (pv 3) (pe_lst (pa_cons (pe_kept (T := T) (t := fun E => tMeth C "above" (sp2 K C D (fun _ bl a b => .bool (!decide (a = b) && decide (b ∈ bl a)))) [] E (tVar 0) (tCons (tVar 2) (tCons (tVar 2) tNil))) R rfl rfl hg hrk rfl TB rfl hmT hu (by exact lamS_by (sc := defScope sDoors) (by decide +kernel)) rfl (fun _ _ _ _ _ => rfl) (fun A outer s H E f c' r => pe_mx M.above M.c.cl (r.mono (by decide)) lamPass (pv 0) (pa_cons (pv 2) (pa_cons (pv 2) pa_nil))) (tm_meth ms_2 mt_var (ma_cons mt_var (ma_cons mt_var ma_nil)))) pa_nil))))
      (pss_cons (ps_set (i := 3) scDoors.nd rfl (Or.inl rfl) (pe_op op_catQ (pv 3) (pe_lst (pa_cons (pe_kept (T := T) (t := fun E => tMeth C "above" (sp2 K C D (fun _ bl a b => .bool (!decide (a = b) && decide (b ∈ bl a)))) [] E (tVar 0) (tCons (tVar 2) (tCons (tC .non) tNil))) R rfl rfl hg hrk rfl TB rfl hmT hu (by exact lamS_by (sc := defScope sDoors) (by decide +kernel)) rfl (fun _ _ _ _ _ => rfl) (fun A outer s H E f c' r => pe_mx M.above M.c.cl (r.mono (by decide)) lamPass (pv 0) (pa_cons (pv 2) (pa_cons pe_non pa_nil))) (tm_meth ms_2 mt_var (ma_cons mt_var (ma_cons mt_c ma_nil)))) pa_nil))))
      (pss_one (ps_if (pt_cmpR (op_neD hr1.units) (pv 3) (pe_op op_rep (pe_lst (pa_cons (pe_lstB (pa_cons pe_bl (pa_cons pe_bl (pa_cons (pe_callB (call_reprU hg hun) (by rfl) R.rep (by decide +kernel) (pa_cons (pv 2) pa_nil)) pa_nil)))) pa_nil)) pe_int) (nomark _)) (pss_one (ps_ret pe_bl)) pss_nil))))))))))))
      (pss_one (ps_ret pe_bl))), ?_⟩
    have yes : hasD ns (.str (ns.headD "")) = true := by
      show (true && decide (ns.headD "" ∈ ns)) = true
      rw [decide_eq_true (head_mem ok.N.one)]
      rfl
    refine q_forN (K := K) (T := T) (ds := badL ns) (edl_lst (eds_cons (ed_non ev_c) (eds_cons (ed_int ev_c) (eds_cons (ed_str ev_c) (eds_cons (ed_lst eds_nil (by simp)) (eds_cons ed_dnew (eds_cons (ed_tup (eds_cons (ed_str (ev_op (ev_var rfl) ev_c (rv_ixL ha (heads ok.N.one)))) eds_nil) (by simp)) eds_nil)))))) (by show 6 ≤ 100000; decide))
      (fun σ => ∃ o2 o3 : Option V, σ = [some (.ref L), some (.ref a), o2, o3]) ⟨_, _, rfl⟩ tb (fun d hd v σ' G0 D' S E0 t0 g nx rt => ?_) (fun σ1 H1 S1 e1 t1 => ?_)
    · obtain ⟨o2, o3, rfl⟩ := S
      obtain ⟨no, ov⟩ := badL_ok ok.N dr d hd
      have F0 : ExtN G0 G0 := ExtN.refl _
      have lvF : ∀ H1, ExtN G0 H1 → LvAt C H1 L ns bl := fun H1 e1 => lv.extN (E0.trans e1)
      have gF : ∀ H1, ExtN G0 H1 → Dd K H1 v d := fun H1 e1 => dd_extN (F0.trans e1) _ _ g
      have haF : ∀ H1, ExtN G0 H1 → SqL K H1 a (ns.map V.str) := fun H1 e1 => sql_extN (E0.trans e1) ha
      refine q_asgN (K := K) (T := T) (d := .list (List.replicate 1 (rowD false true d.shown))) (evN_lst (evN_kept R.e2 ov.tb fun E H1 e1 hE => go_m1 (fun _ _ => rfl) (lvF H1 e1) ok (ev_var rfl) (eds_cons (ed_var rfl (gF H1 e1)) eds_nil) no hE)) t0 fun v1 G1 e1 t1 g1 => ?_
      have E1 : ExtN H G1 := E0.trans e1
      have F1 : ExtN G0 G1 := F0.trans e1
      clear lvF gF haF
      have lvF : ∀ H1, ExtN G1 H1 → LvAt C H1 L ns bl := fun H1 e1 => lv.extN (E1.trans e1)
      have gF : ∀ H1, ExtN G1 H1 → Dd K H1 v d := fun H1 e1 => dd_extN (F1.trans e1) _ _ g
      have haF : ∀ H1, ExtN G1 H1 → SqL K H1 a (ns.map V.str) := fun H1 e1 => sql_extN (E1.trans e1) ha
      refine q_asgN (K := K) (T := T) (d := .list (List.replicate 2 (rowD false true d.shown))) (evN_cat (fun H1 e1 => ed_var rfl (dd_extN e1 _ _ g1)) (evN_lst (evN_kept R.e2 ov.tb fun E H1 e1 hE => go_m1 (fun _ _ => rfl) (lvF H1 e1) ok (ev_var rfl) (eds_cons (ed_var rfl (gF H1 e1)) eds_nil) no hE)) (by simp)) t1 fun v2 G2 e2 t2 g2 => ?_
      have E2 : ExtN H G2 := E1.trans e2
      have F2 : ExtN G0 G2 := F1.trans e2
      clear lvF gF haF
      have lvF : ∀ H1, ExtN G2 H1 → LvAt C H1 L ns bl := fun H1 e1 => lv.extN (E2.trans e1)
      have gF : ∀ H1, ExtN G2 H1 → Dd K H1 v d := fun H1 e1 => dd_extN (F2.trans e1) _ _ g
      have haF : ∀ H1, ExtN G2 H1 → SqL K H1 a (ns.map V.str) := fun H1 e1 => sql_extN (E2.trans e1) ha
      refine q_asgN (K := K) (T := T) (d := .list (List.replicate 3 (rowD false true d.shown))) (evN_cat (fun H1 e1 => ed_var rfl (dd_extN e1 _ _ g2)) (evN_lst (evN_kept R.e2 ov.tb fun E H1 e1 hE => go_m1 (fun _ _ => rfl) (lvF H1 e1) ok (ev_var rfl) (eds_cons (ed_var rfl (gF H1 e1)) eds_nil) no hE)) (by simp)) t2 fun v3 G3 e3 t3 g3 => ?_
      have E3 : ExtN H G3 := E2.trans e3
      have F3 : ExtN G0 G3 := F2.trans e3
      clear lvF gF haF
      have lvF : ∀ H1, ExtN G3 H1 → LvAt C H1 L ns bl := fun H1 e1 => lv.extN (E3.trans e1)
      have gF : ∀ H1, ExtN G3 H1 → Dd K H1 v d := fun H1 e1 => dd_extN (F3.trans e1) _ _ g
      have haF : ∀ H1, ExtN G3 H1 → SqL K H1 a (ns.map V.str) := fun H1 e1 => sql_extN (E3.trans e1) ha
      refine q_asgN (K := K) (T := T) (d := .list (List.replicate 4 (rowD false true d.shown))) (evN_cat (fun H1 e1 => ed_var rfl (dd_extN e1 _ _ g3)) (evN_lst (evN_kept R.e2 ov.tb fun E H1 e1 hE => go_m2a (fun _ _ => rfl) (lvF H1 e1) ok (ev_var rfl) (eds_cons (ed_var rfl (gF H1 e1)) (eds_cons (ed_non ev_c) eds_nil)) no hE)) (by simp)) t3 fun v4 G4 e4 t4 g4 => ?_
      have E4 : ExtN H G4 := E3.trans e4
      have F4 : ExtN G0 G4 := F3.trans e4
      clear lvF gF haF
      have lvF : ∀ H1, ExtN G4 H1 → LvAt C H1 L ns bl := fun H1 e1 => lv.extN (E4.trans e1)
      have gF : ∀ H1, ExtN G4 H1 → Dd K H1 v d := fun H1 e1 => dd_extN (F4.trans e1) _ _ g
      have haF : ∀ H1, ExtN G4 H1 → SqL K H1 a (ns.map V.str) := fun H1 e1 => sql_extN (E4.trans e1) ha
      refine q_asgN (K := K) (T := T) (d := .list (List.replicate 5 (rowD false true d.shown))) (evN_cat (fun H1 e1 => ed_var rfl (dd_extN e1 _ _ g4)) (evN_lst (evN_kept R.e2 ov.tb fun E H1 e1 hE => go_m2b (fun _ _ => rfl) (lvF H1 e1) ok (ev_var rfl) (eds_cons (ed_str (ev_op (ev_var rfl) ev_c (rv_ixL (haF H1 e1) (heads ok.N.one)))) (eds_cons (ed_var rfl (gF H1 e1)) eds_nil)) yes no hE)) (by simp)) t4 fun v5 G5 e5 t5 g5 => ?_
      have E5 : ExtN H G5 := E4.trans e5
      have F5 : ExtN G0 G5 := F4.trans e5
      clear lvF gF haF
      have lvF : ∀ H1, ExtN G5 H1 → LvAt C H1 L ns bl := fun H1 e1 => lv.extN (E5.trans e1)
      have gF : ∀ H1, ExtN G5 H1 → Dd K H1 v d := fun H1 e1 => dd_extN (F5.trans e1) _ _ g
      have haF : ∀ H1, ExtN G5 H1 → SqL K H1 a (ns.map V.str) := fun H1 e1 => sql_extN (E5.trans e1) ha
      refine q_asgN (K := K) (T := T) (d := .list (List.replicate 6 (rowD false true d.shown))) (evN_cat (fun H1 e1 => ed_var rfl (dd_extN e1 _ _ g5)) (evN_lst (evN_kept R.e2 ov.tb fun E H1 e1 hE => go_m2b (fun _ _ => rfl) (lvF H1 e1) ok (ev_var rfl) (eds_cons (ed_str (ev_op (ev_var rfl) ev_c (rv_ixL (haF H1 e1) (heads ok.N.one)))) (eds_cons (ed_var rfl (gF H1 e1)) eds_nil)) yes no hE)) (by simp)) t5 fun v6 G6 e6 t6 g6 => ?_
      have E6 : ExtN H G6 := E5.trans e6
      have F6 : ExtN G0 G6 := F5.trans e6
      clear lvF gF haF
      have lvF : ∀ H1, ExtN G6 H1 → LvAt C H1 L ns bl := fun H1 e1 => lv.extN (E6.trans e1)
      have gF : ∀ H1, ExtN G6 H1 → Dd K H1 v d := fun H1 e1 => dd_extN (F6.trans e1) _ _ g
      have haF : ∀ H1, ExtN G6 H1 → SqL K H1 a (ns.map V.str) := fun H1 e1 => sql_extN (E6.trans e1) ha
      refine q_asgN (K := K) (T := T) (d := .list (List.replicate 7 (rowD false true d.shown))) (evN_cat (fun H1 e1 => ed_var rfl (dd_extN e1 _ _ g6)) (evN_lst (evN_kept R.e2 ov.tb fun E H1 e1 hE => go_m2a (fun _ _ => rfl) (lvF H1 e1) ok (ev_var rfl) (eds_cons (ed_var rfl (gF H1 e1)) (eds_cons (ed_str (ev_op (ev_var rfl) ev_c (rv_ixL (haF H1 e1) (heads ok.N.one)))) eds_nil)) no hE)) (by simp)) t6 fun v7 G7 e7 t7 g7 => ?_
      have E7 : ExtN H G7 := E6.trans e7
      have F7 : ExtN G0 G7 := F6.trans e7
      clear lvF gF haF
      have lvF : ∀ H1, ExtN G7 H1 → LvAt C H1 L ns bl := fun H1 e1 => lv.extN (E7.trans e1)
      have gF : ∀ H1, ExtN G7 H1 → Dd K H1 v d := fun H1 e1 => dd_extN (F7.trans e1) _ _ g
      have haF : ∀ H1, ExtN G7 H1 → SqL K H1 a (ns.map V.str) := fun H1 e1 => sql_extN (E7.trans e1) ha
      refine q_asgN (K := K) (T := T) (d := .list (List.replicate 8 (rowD false true d.shown))) (evN_cat (fun H1 e1 => ed_var rfl (dd_extN e1 _ _ g7)) (evN_lst (evN_kept R.e2 ov.tb fun E H1 e1 hE => go_m2a (fun _ _ => rfl) (lvF H1 e1) ok (ev_var rfl) (eds_cons (ed_var rfl (gF H1 e1)) (eds_cons (ed_var rfl (gF H1 e1)) eds_nil)) no hE)) (by simp)) t7 fun v8 G8 e8 t8 g8 => ?_
      have E8 : ExtN H G8 := E7.trans e8
      have F8 : ExtN G0 G8 := F7.trans e8
      clear lvF gF haF
      have lvF : ∀ H1, ExtN G8 H1 → LvAt C H1 L ns bl := fun H1 e1 => lv.extN (E8.trans e1)
      have gF : ∀ H1, ExtN G8 H1 → Dd K H1 v d := fun H1 e1 => dd_extN (F8.trans e1) _ _ g
      have haF : ∀ H1, ExtN G8 H1 → SqL K H1 a (ns.map V.str) := fun H1 e1 => sql_extN (E8.trans e1) ha
      refine q_asgN (K := K) (T := T) (d := .list (List.replicate 9 (rowD false true d.shown))) (evN_cat (fun H1 e1 => ed_var rfl (dd_extN e1 _ _ g8)) (evN_lst (evN_kept R.e2 ov.tb fun E H1 e1 hE => go_m2a (fun _ _ => rfl) (lvF H1 e1) ok (ev_var rfl) (eds_cons (ed_var rfl (gF H1 e1)) (eds_cons (ed_non ev_c) eds_nil)) no hE)) (by simp)) t8 fun v9 G9 e9 t9 g9 => ?_
      have E9 : ExtN H G9 := E8.trans e9
      have F9 : ExtN G0 G9 := F8.trans e9
      clear lvF gF haF
      refine s_whenN (etN_of fun H1 e1 => et_is (et_test (ed_neD (e := .list (List.replicate 9 (rowD false true d.shown))) (ed_var rfl (dd_extN e1 _ _ g9)) (ed_is (d := .list (List.replicate (9 : Int).toNat [rowD false true d.shown]).flatten) (ed_ofL (edl_rep (k := 9) (edl_lst (eds_cons (ed_lst (eds_cons (ed_bl ev_c) (eds_cons (ed_bl ev_c) (eds_cons (ed_str (ev_reprO (ed_var rfl (dd_extN (F9.trans e1) _ _ g)) ov.tb)) eds_nil))) (by simp)) eds_nil) (by simp)) (fun _ _ => ev_c) ⟨by decide, by decide⟩ (by show 1 * 9 ≤ 100000; decide))) rfl) rfl rfl (rows_shaped false true ov.ok) (rows_shaped false true ov.ok))) (by rw [rows_eqv _ (row_eqv _ _ _)]; rfl)) t9 fun H1 e1 t1 => nx _ H1 ⟨_, _, rfl⟩ (F9.trans e1) t1
    · obtain ⟨o2, o3, rfl⟩ := S1
      exact s_ret (v := .bl true) ev_c fun H2 e2 => kQ H2 (e1.trans (ExtN.of e2)) (tabs_ext t1 e2)
end
end K01
set_option maxHeartbeats 4000000
namespace K01
open PySem PySem.Spec PyProof.Rows L2 Evl My LamX
/-! names(): a list of its own -/
def sp0L (C : Addr) : Sp := fun vs H Q _ => ∃ (L : Addr) (ns : List Str) (bl : Str → List Str), vs = [.ref L] ∧ LvAt C H L ns bl ∧ LvOk ns bl ∧ ∀ p H', H p = none → Ex H H' → H' p = some (.lst (ns.map V.str)) → Q (.ref p) H'
section
variable {P : Program} {w : World} {K : PySem.W.Frag} {mg : Str → Option Value} {base : Heap} {f C D : Addr} {fd : FuncData}
theorem ok_namL (F : Fun K "names" "Levels.names" mNames f fd) (T : Txt mg) (c : LvC K C) : FnOk P w K mg base CX0 1 f fd ["self"] (sp0L C) := by
  refine F.ok scNam (fun vs H Q E h => ?_) (fun cdv A outer s H vs Q E hr h => ?_)
  · obtain ⟨L, ns, bl, rfl, _⟩ := h
    rfl
  · obtain ⟨L, ns, bl, rfl, lv, ok, kQ⟩ := h
    refine ⟨_, pss_one (ps_ret (pe_callTy call_list_of (by rfl) T.lst (by decide +kernel) (pa_cons (pe_fld (pv 0) rfl) pa_nil))), ?_⟩
    exact (edl_listQ (d := .list (txts ns)) (ed_order c lv (ev_var rfl)) rfl) H (Ex.refl _) _ fun p xs H1 np e1 hp gp => by
      have gp2 : Dds K H1 xs (txts ns) := gp
      rw [Dds.txts gp2] at hp
      exact kQ p H1 np e1 hp
end
/-! Levels(..) -/
structure MkL (P : Program) (w : World) (K : PySem.W.Frag) (mg : Str → Option Value) (base : Heap) (C D1 : Addr) : Prop where
  ex : ∃ (f : Addr) (fd : FuncData) (t : Addr), Mk K C f ∧ FnOk P w K mg base (L2.CX P w) 4 f fd ["self", "names", "pairs"] (spInit K C D1) ∧ Binds K fd ["self", "names", "pairs"] [] ∧ Binds K fd ["self", "names", "pairs"] [.ref t] ∧ ∀ H, SqT K H t []
  g : mg "Levels" = some (.ref C)
theorem mkLv {X : Cx} {C D1 : Addr} {e : Expr} {es : List Expr} {t : TA} {p pos : Pos} {E : XK} (M : MkL X.prog X.w X.K X.mg X.base C D1) (hr : Room 5 X.A) (hg : Gl X "Levels") (hx : Passes (L2.CX X.prog X.w) X E) (ha : PA X (e :: es) t)
    (he : starEach (e :: es) X.env = (false, eval e X.env) :: starEach es X.env := by rfl) (hpl : (backTo pos (starEach es X.env)).any (·.1) = false := by rfl) :
    PE X (.Call (.Name "Levels" p) (e :: es) [] pos) (tMake C (spInit X.K C D1) [] E t) := by
  obtain ⟨f, fd, _, M1, F, b, _⟩ := M.ex
  exact pe_make M1 F hr hg M.g b .nil hx ha (by decide) he hpl
def tMk1 (K : PySem.W.Frag) (C D1 : Addr) (E : XK) (t : TA) : TE := fun σ H Q => ∀ d : Addr, (∀ H, SqT K H d []) → tMake C (spInit K C D1) [.ref d] E t σ H Q
theorem mkLv1 {X : Cx} {C D1 : Addr} {e : Expr} {es : List Expr} {t : TA} {p pos : Pos} {E : XK} (M : MkL X.prog X.w X.K X.mg X.base C D1) (hr : Room 5 X.A) (hg : Gl X "Levels") (hx : Passes (L2.CX X.prog X.w) X E) (ha : PA X (e :: es) t)
    (he : starEach (e :: es) X.env = (false, eval e X.env) :: starEach es X.env := by rfl) (hpl : (backTo pos (starEach es X.env)).any (·.1) = false := by rfl) :
    PE X (.Call (.Name "Levels" p) (e :: es) [] pos) (tMk1 X.K C D1 E t) := by
  obtain ⟨f, fd, d, M1, F, _, b, hd⟩ := M.ex
  exact peImp (pe_make M1 F hr hg M.g b (dvs := [.ref d]) (.cons (show RelV (.ref d) (.ref d) from rfl) .nil) hx ha (by decide) he hpl) fun σ H Q h => h d hd
/-- a new Levels -/
def EvLv (C : Addr) (te : TE) (σ : L2.St) (H : Hp) (ns : List Str) (bl : Str → List Str) : Prop := ∀ H1, Ex H H1 → ∀ Q : VK, (∀ L H2, Ex H1 H2 → LvAt C H2 L ns bl → Q (.ref L) H2) → te σ H1 Q
section
variable {K : PySem.W.Frag} {C D D1 : Addr} {σ : L2.St} {H : Hp} {ns ns2 : List Str} {bl bl2 : Str → List Str} {d d1 d2 : PyData} {E : XK} {ta tb te : TE} {t : TA} {L J : Addr} {De : Ends} {i : Nat} {tz : TS}
theorem ex_made {H1 H2 H' : Hp} {x dx : Addr} (e : Ex H1 H2) (n1 : H2 x = none) (n2 : H2 dx = none) (b : But x (upd (upd H2 dx (.own x)) x (.ins C dx [])) H') : Ex H1 H' := fun a o h => by
  have h2 := e a o h
  have a1 : a ≠ x := ne_of_none h2 n1
  have a2 : a ≠ dx := ne_of_none h2 n2
  exact b a o a1 (by rw [upd_ne a1, upd_ne a2]; exact h2)
theorem made (a : EvDs K t σ H [d1, d2]) (s1 : small d1 = true) (s2 : small d2 = true) (hn : namesD d1 = true) (hp : pairsB ((seqOf d1).map strD) d2 = true) (short : (seqOf d2).length ≤ 10) :
    EvLv C (tMake C (spInit K C D1) [] E t) σ H ((seqOf d1).map strD) (belF ((seqOf d1).map strD) ((seqOf d2).map pairOf) ((seqOf d1).map strD)) := fun H1 e Q q => a H1 e _ fun vs H2 e2 g x dx n1 n2 n3 => by
  have e3 : Ex H2 (upd (upd H2 dx (.own x)) x (.ins C dx [])) := (Ex.new n2).trans (Ex.new (by rw [upd_ne (Ne.symm n3)]; exact n1))
  cases g with
  | cons g1 g2 =>
    cases g2 with
    | cons g2 g3 =>
      cases g3
      exact ⟨x, dx, _, _, d1, d2, rfl, upd_same, Dd.ext e3 _ _ g1, s1, Dd.ext e3 _ _ g2, s2, (fun _ _ => ⟨short, fun H' b lv => ⟨rfl, q x H' (ex_made e2 n1 n2 b) lv⟩⟩), (fun z => by rw [hn] at z; cases z), fun _ z => by rw [hp] at z; cases z⟩
theorem made1 (a : EvDs K t σ H [d1]) (s1 : small d1 = true) (hn : namesD d1 = true) :
    EvLv C (tMk1 K C D1 E t) σ H ((seqOf d1).map strD) (belF ((seqOf d1).map strD) [] ((seqOf d1).map strD)) := fun H1 e Q q d hd => a H1 e _ fun vs H2 e2 g x dx n1 n2 n3 => by
  have e3 : Ex H2 (upd (upd H2 dx (.own x)) x (.ins C dx [])) := (Ex.new n2).trans (Ex.new (by rw [upd_ne (Ne.symm n3)]; exact n1))
  cases g with
  | cons g1 g2 =>
    cases g2
    exact ⟨x, dx, _, _, d1, .tuple [], rfl, upd_same, Dd.ext e3 _ _ g1, s1, .tup (hd _) .nil, rfl, (fun _ _ => ⟨Nat.zero_le _, fun H' b lv => ⟨rfl, q x H' (ex_made e2 n1 n2 b) lv⟩⟩), (fun z => by rw [hn] at z; cases z), fun _ z => by cases z⟩
theorem q_asgLv (h : EvLv C te σ H ns bl) (k : ∀ L H1, Ex H H1 → LvAt C H1 L ns bl → tz De (σ.set i (some (.ref L))) H1) : tSeq (tAsg te (gName i)) tz De σ H := h H (Ex.refl _) _ fun L H1 e lv => k L H1 e lv
end
/-! == -/
structure EqL (P : Program) (w : World) (K : PySem.W.Frag) (mg : Str → Option Value) (base : Heap) (C : Addr) : Prop where
  ex : ∃ (g : Addr) (fd : FuncData), PySem.W.findIn K (.ref C) "__eq__" = some (some (.ref g)) ∧ PySem.W.isFn K (.ref g) = true ∧ FnOk P w K mg base CX0 1 g fd ["self", "other"] (spEqL K C) ∧ Binds K fd ["self", "other"] []
  i : LvI K C
  c : LvC K C
  nC : PySem.W.notFirst K C (.ref C) = true
theorem op_eqL {X : Cx} {C : Addr} (M : EqL X.prog X.w X.K X.mg X.base C) (hr : Room 1 X.A) : OpR X (compareOp .Eq) (rOwnI X.K C (spEqL X.K C) E0) := by
  obtain ⟨g, fd, h1, h2, F, b⟩ := M.ex
  exact op_ownI (fun _ _ => rfl) h1 h2 F b hr passN
section
variable {P : Program} {w : World} {mg : Str → Option Value} {base : Heap} {K : PySem.W.Frag} {C L J : Addr} {σ : L2.St} {H : Hp} {ns ns2 : List Str} {bl bl2 : Str → List Str} {d : PyData} {ta tb : TE}
theorem ev_eqLL (M : EqL P w K mg base C) (ok : LvOk ns bl) (ok2 : LvOk ns2 bl2) (ha : EvLv C ta σ H ns bl) (hb : ∀ H1, Ex H H1 → EvLv C tb σ H1 ns2 bl2) : Ev (tOp (rOwnI K C (spEqL K C) E0) ta tb) σ H (.bl (sameL ns bl ns2 bl2)) := fun H1 e Q q =>
  ha H1 e _ fun L H2 e2 lv => hb H2 (e.trans e2) H2 (Ex.refl _) _ fun J H3 e3 lv2 => by
    have lv3 := lv.ext e3
    obtain ⟨dx, o, b, h1, h2, h3⟩ := id lv3
    obtain ⟨dx2, o2, b2, g1, g2, g3⟩ := id lv2
    exact ⟨L, dx, _, .ref C, rfl, h1, .base (.ins g1 M.c.cl M.i.ha M.i.hn M.i.htk M.i.hm), M.nC, L, .ref J, ns, bl, rfl, lv3, ok, .inl ⟨J, ns2, bl2, rfl, lv2, ok2, fun H4 e4 => q H4 ((e2.trans e3).trans e4)⟩⟩
theorem ev_eqLD (M : EqL P w K mg base C) (ok : LvOk ns bl) (ha : EvLv C ta σ H ns bl) (hb : ∀ H1, Ex H H1 → EvD K tb σ H1 d) : Ev (tOp (rOwnI K C (spEqL K C) E0) ta tb) σ H (.bl false) := fun H1 e Q q =>
  ha H1 e _ fun L H2 e2 lv => hb H2 (e.trans e2) H2 (Ex.refl _) _ fun v H3 e3 g => by
    have lv3 := lv.ext e3
    obtain ⟨dx, o, b, h1, h2, h3⟩ := id lv3
    exact ⟨L, dx, _, .type (tyD d), rfl, h1, g.ty, M.i.nT d, L, v, ns, bl, rfl, lv3, ok, .inr ⟨d, g, fun H4 e4 => q H4 ((e2.trans e3).trans e4)⟩⟩
theorem lv_var {i : Nat} (h : σ[i]? = some (some (.ref L))) (lv : LvAt C H L ns bl) : EvLv C (tVar i) σ H ns bl := fun H1 e Q q => ⟨_, h, q L H1 (Ex.refl _) (lv.ext e)⟩
end
/-! what is drawn is right -/
theorem prs_map (ps : List (Str × Str)) : (prs ps).map pairOf = ps := by
  unfold prs
  rw [List.map_map]
  exact List.map_id'' (fun p => rfl) ps
theorem names_is {ns : List Str} (N : NamesOk ns) {d : PyData} (hs : isSeq d = true) (hd : seqOf d = txts ns) : namesD d = true := by
  unfold namesD len8 difD
  rw [hs, hd, len_txts, strs_txts, decide_eq_true N.one, decide_eq_true N.eight, decide_eq_true N.nd]
  have : (txts ns).all wordD = true := List.all_eq_true.mpr fun x hx => by
    obtain ⟨s, hs, rfl⟩ := List.mem_map.mp hx
    exact N.word s hs
  rw [this]
  rfl
theorem pair_good {ns : List Str} {ps : List (Str × Str)} (N : NamesOk ns) (O : PairsOk ns ps) : ∀ d ∈ prs ps, pairB ns d = true ∧ Fc 1131 2 d := fun d hd => by
  obtain ⟨p, hp, rfl⟩ := List.mem_map.mp hd
  obtain ⟨i, j, ij, hi, hj⟩ := O.2 p hp
  have m1 : p.1 ∈ ns := List.mem_of_getElem? hi
  have m2 : p.2 ∈ ns := List.mem_of_getElem? hj
  have w1 := N.word _ m1
  have w2 := N.word _ m2
  refine ⟨?_, fc_tup (n := 92) (m := 1) (ds := [.str p.1, .str p.2]) (fun d hd => ?_) (by show 2 ≤ 12; decide)⟩
  · show ((true && two (.tuple [.str p.1, .str p.2])) && ([.str p.1, .str p.2].all (inD ns) && decide (ixOf p.1 ns < ixOf p.2 ns))) = true
    rw [ixOf_nd N.nd hi, ixOf_nd N.nd hj, decide_eq_true ij, List.all_cons, List.all_cons]
    unfold inD
    rw [w1, w2, show strD (.str p.1) = p.1 from rfl, show strD (.str p.2) = p.2 from rfl, decide_eq_true m1, decide_eq_true m2]
    rfl
  · rcases List.mem_cons.mp hd with rfl | hd
    · exact fc_word w1
    · rw [List.mem_singleton.mp hd]
      exact fc_word w2
theorem pairs_is {ns : List Str} {ps : List (Str × Str)} (N : NamesOk ns) (O : PairsOk ns ps) {d : PyData} (hs : isSeq d = true) (hd : ∀ x ∈ seqOf d, x ∈ prs ps) : pairsB ns d = true := by
  unfold pairsB
  rw [hs, Bool.true_and]
  exact List.all_eq_true.mpr fun x hx => (pair_good N O x (hd x hx)).1
theorem fc_listk {n m k : Nat} {ds : List PyData} (h : ∀ d ∈ ds, Fc n m d) (hl : ds.length ≤ k) (hk : k ≤ 12) : Fc (k * (n + 2) + 3) (m + 1) (.list ds) := by
  have f := fc_list h (Nat.le_trans hl hk)
  obtain ⟨h1, h2, h3, h4, h5, h6⟩ := fcs h
  have hz : (n + 2) * ds.length ≤ (n + 2) * k := Nat.mul_le_mul_left _ hl
  refine ⟨f.sh, f.asc, ?_, f.dp, f.sm, f.nd⟩
  rw [PyData.shown_list, PySem.Str.length_append, PySem.Str.length_append]
  have := join_le (PyData.shownAll ds)
  have e1 : Str.length "[" = 1 := rfl
  have e2 : Str.length "]" = 1 := rfl
  rw [Nat.mul_comm k]
  omega
theorem fc_names {ns : List Str} (N : NamesOk ns) : Fc 1131 2 (.list (txts ns)) := fc_list (fc_txts N) (by rw [len_txts]; have := N.eight; omega)
theorem len_prs (ps : List (Str × Str)) : (prs ps).length = ps.length := by
  unfold prs
  rw [List.length_map]
theorem fc_pairs {ns : List Str} {ps : List (Str × Str)} (N : NamesOk ns) (O : PairsOk ns ps) : Fc 13599 3 (.list (prs ps)) := fc_list (fun d hd => (pair_good N O d hd).2) (by rw [len_prs]; have := O.1; omega)
theorem fc_both {ns : List Str} {ps : List (Str × Str)} (N : NamesOk ns) (O : PairsOk ns ps) : Okv (.list [.list (txts ns), .list (prs ps)]) := (fc_listk (n := 13599) (m := 3) (k := 2) (fun d hd => by
  rcases List.mem_cons.mp hd with rfl | hd
  · exact (fc_names N).mono (by decide) (by decide)
  · rw [List.mem_singleton.mp hd]
    exact fc_pairs N O) (Nat.le_refl _) (by decide)).okv (by decide) (by decide)
theorem sameL_all {ns : List Str} {bl bl2 : Str → List Str} : sameL ns bl ns bl2 = ns.all fun s => decide (bl s = bl2 s) := by
  unfold sameL
  rw [decide_eq_true rfl, Bool.true_and]
theorem all_sym (ns : List Str) (bl bl2 : Str → List Str) : (ns.all fun s => decide (bl s = bl2 s)) = ns.all fun s => decide (bl2 s = bl s) := by
  refine congrArg (fun f => List.all ns f) (funext fun s => ?_)
  exact decide_eq_decide.mpr ⟨Eq.symm, Eq.symm⟩
end K01
set_option maxHeartbeats 4000000
namespace K01
open PySem PySem.Spec PyProof.Rows L2 Evl My LamX
section
variable {K : PySem.W.Frag} {T : List (Addr × Str)} {C D D1 : Addr} {σ : L2.St} {H H' : Hp} {ns : List Str} {bl bl2 : Str → List Str} {ps qs : List (Str × Str)} {d d1 d2 : PyData} {ds : List PyData} {E : XK} {ta tb te tl : TE} {t : TA} {ts tz : TS} {De : Ends} {i j : Nat}
theorem tabs_but {p : Addr} (tb : Tabs T H) (hp : PoolAt H p) (b : But p H H') : Tabs T H' := fun q hq => by
  obtain ⟨c, z, h1, _⟩ := hp
  obtain ⟨ps, t1, t2, t3⟩ := tb q hq
  refine ⟨ps, b _ _ (fun z => by
    rw [z, h1] at t1
    cases t1) t1, t2, fun pos cv hc => ?_⟩
  obtain ⟨c1, e1, e2⟩ := t3 pos cv hc
  exact ⟨c1, e1, b _ _ (fun z => by
    rw [z, h1] at e2
    cases e2) e2⟩
theorem turns8 {j : Int} (h0 : 0 ≤ j) : (let q := if (if (8 : Int) < j then 8 else j) > 1 then (if (8 : Int) < j then 8 else j) else 1; q ≤ 8 ∧ 1 ≤ q) := by
  show (if (if (8 : Int) < j then 8 else j) > 1 then (if (8 : Int) < j then 8 else j) else 1) ≤ 8 ∧ 1 ≤ (if (if (8 : Int) < j then 8 else j) > 1 then (if (8 : Int) < j then 8 else j) else 1)
  split <;> split <;> omega
theorem made2 (a : EvDs K t σ H [d1, d2]) (N : NamesOk ns) (h1 : isSeq d1 = true) (h1s : seqOf d1 = txts ns) (s1 : small d1 = true) (O : PairsOk ns ps) (h2 : isSeq d2 = true) (h2s : seqOf d2 = prs qs) (s2 : small d2 = true) (sub : ∀ x ∈ qs, x ∈ ps) (len : qs.length ≤ 10) :
    EvLv C (tMake C (spInit K C D1) [] E t) σ H ns (belF ns qs ns) := by
  have m := made (C := C) (D1 := D1) (E := E) a s1 s2 (names_is N h1 h1s) (by
    rw [h1s, strs_txts]
    refine pairs_is N O h2 fun x hx => ?_
    rw [h2s] at hx
    obtain ⟨p, hp, rfl⟩ := List.mem_map.mp hx
    exact List.mem_map.mpr ⟨p, sub p hp, rfl⟩) (by rw [h2s, len_prs]; exact len)
  rw [h1s, h2s, strs_txts, prs_map] at m
  exact m
theorem made3 (a : EvDs K t σ H [.list (txts ns)]) (N : NamesOk ns) : EvLv C (tMk1 K C D1 E t) σ H ns (belF ns [] ns) := by
  have m := made1 (C := C) (D1 := D1) (E := E) a (fc_names N).sm (names_is N rfl rfl)
  rw [show seqOf (.list (txts ns)) = txts ns from rfl, strs_txts] at m
  exact m
theorem dds_rev : ∀ {xs : List V} {ds : List PyData}, Dds K H xs ds → Dds K H xs.reverse ds.reverse
  | _, _, .nil => .nil
  | _, _, .cons g gs => by
    rw [List.reverse_cons, List.reverse_cons]
    exact Dds.app (dds_rev gs) (.cons g .nil)
theorem ed_rev (h : EvD K te σ H (.list ds)) (hs : ∀ H1, Ex H H1 → Ev tb σ H1 (.int (-1))) : EvD K (tRev K te (tPart tb)) σ H (.list ds.reverse) := fun H1 e Q q =>
  h H1 e _ fun v H2 e2 g => hs H2 (e.trans e2) H2 (Ex.refl _) _ fun H3 e3 => by
    cases g with
    | @lst a xs _ hx gx => exact ⟨-1, rfl, rfl, a, xs, rfl, ex_l e3 hx, fun p hp => q _ _ ((e2.trans e3).trans (Ex.new hp)) (.lst (sq_of upd_same) (dds_rev (Dds.ext (e3.trans (Ex.new hp)) _ _ gx)))⟩
theorem ed_tupL (h : EvD K te σ H (.list ds)) : EvD K (tCB (fun xs H Q => ∃ p ys, xs = [.ref p] ∧ ((SqL K H p ys ∧ ∀ l, H l = none → Q (.ref l) (upd H l (.tup ys))) ∨ (SqT K H p ys ∧ Q (.ref p) H))) (tCons te tNil)) σ H (.tuple ds) := fun H1 e Q q =>
  h H1 e _ fun v H2 e2 g => by
    cases g with
    | @lst a xs _ hx gx => exact ⟨a, xs, rfl, .inl ⟨hx, fun l hl => q _ _ (e2.trans (Ex.new hl)) (.tup (st_of upd_same) (Dds.ext (Ex.new hl) _ _ gx))⟩⟩
/-- a dict made anew beside one that stands -/
theorem ev_eqDn {a : Addr} (N : ∀ s ∈ ns, (∀ w ∈ bl s, wordD (.str w) = true) ∧ ∀ w ∈ bl2 s, wordD (.str w) = true) (ha : Ev ta σ H (.ref a)) (h1 : DcAt H a ns bl) (hb : ∀ H1, Ex H H1 → ∀ Q : VK, (∀ b H2, Ex H1 H2 → DcAt H2 b ns bl2 → Q (.ref b) H2) → tb σ H1 Q) :
    Ev (tOp (rEqDK K) ta tb) σ H (.bl (ns.all fun s => decide (bl s = bl2 s))) := fun H1 x Q q => ha H1 x _ fun H2 e2 => hb H2 (x.trans e2) _ fun b H3 e3 h2 =>
  (ev_eqDc (K := K) (σ := σ) (ta := tC (.ref a)) (tb := tC (.ref b)) N ev_c (h1.ext ((x.trans e2).trans e3)) ev_c h2) H3 (Ex.refl _) Q fun H4 e4 => q H4 ((e2.trans e3).trans e4)
/-- a loop over a list of data whose turns may make lambdas -/
theorem q_forNQ (h : EvD K tl σ H (.list ds)) (S : L2.St → Prop) (s0 : S σ) (tb0 : Tabs T H)
    (step : ∀ d, d ∈ ds → ∀ v σ' H' D', S σ' → ExtN H H' → Tabs T H' → Dd K H' v d → (∀ σ'' H'', S σ'' → ExtN H' H'' → Tabs T H'' → D'.nx σ'' H'') → (∀ v'' H'', D'.rt v'' H'' = De.rt v'' H'') → ts D' (σ'.set j (some v)) H')
    (done : ∀ σ' H', S σ' → ExtN H H' → Tabs T H' → tz De σ' H') : tSeq (tFor (iList K tl) (gName j) ts) tz De σ H :=
  h H (Ex.refl H) _ fun v H1 e1 g => by
    cases g with
    | @lst p xs _ hx gx =>
      exact ⟨p, rfl, ⟨xs, hx⟩, for_list (fun _ σ' H' => S σ' ∧ ExtN H1 H' ∧ Tabs T H') ⟨s0, ExtN.refl _, fun q hq => (tb0 q hq).ext e1⟩
        (fun i σ' H' _ pv => sql_extN pv.2.1 hx)
        (fun i x σ' H' hi pv => by
          obtain ⟨d, hd, gd⟩ := (dds_extN pv.2.1 _ _ gx).get hi
          exact step d (List.mem_of_getElem? hd) x σ' H' _ pv.1 ((ExtN.of e1).trans pv.2.1) pv.2.2 gd (fun σ'' H'' s e t => ⟨s, pv.2.1.trans e, t⟩) fun _ _ => rfl)
        (fun σ' H' pv => done σ' H' pv.1 ((ExtN.of e1).trans pv.2.1) pv.2.2)⟩
end
/-! what are no pairs -/
def lastN (ns : List Str) : Str := ns.getLast?.getD ""
theorem last_is {ns : List Str} (h : 1 ≤ ns.length) : atI (ns.map V.str) (-1) = some (.str (lastN ns)) ∧ lastN ns ∈ ns := by
  have hne : ns ≠ [] := fun z => by
    rw [z] at h
    cases h
  have e : ns = ns.dropLast ++ [lastN ns] := by
    unfold lastN
    rw [List.getLast?_eq_some_getLast hne, Option.getD_some]
    exact (List.dropLast_concat_getLast hne).symm
  constructor
  · rw [e, List.map_append]
    have z := atI_last ((ns.dropLast).map V.str) (.str (lastN ns))
    rw [← e]
    exact z
  · rw [e]
    rw [← e]
    unfold lastN
    rw [List.getLast?_eq_some_getLast hne, Option.getD_some]
    exact List.getLast_mem hne
def badP (ns : List Str) : List PyData := [.none, .int 5, .dict [], .str "low", .list [.none], .list [.tuple []], .list [.tuple [.str (ns.headD "")]], .list [.list [.str (ns.headD ""), .str (ns.headD "")]], .list [.tuple [.str (ns.headD ""), .str (ns.headD "")]]]
def badX (ns : List Str) : List PyData := [.tuple [.str (lastN ns), .str (ns.headD "")], .tuple [.str "nobody", .str (lastN ns)], .tuple [.str (ns.headD ""), .list []], .tuple [.str (ns.headD ""), .str "other", .int 1]]
theorem head_ix {ns : List Str} (N : NamesOk ns) : ixOf (ns.headD "") ns = 0 := by
  refine ixOf_nd N.nd ?_
  have := N.one
  cases ns with
  | nil => cases this
  | cons x r => rfl
theorem no_one {ns : List Str} {x : PyData} (h : pairB ns x = false) : pairsB ns (.list [x]) = false := by
  unfold pairsB
  rw [show seqOf (.list [x]) = [x] from rfl, List.all_cons, h]
  rfl
theorem no_ord {ns : List Str} {a b : Str} (h : ¬ ixOf a ns < ixOf b ns) : pairB ns (.tuple [.str a, .str b]) = false := by
  have e : ordD ns (.tuple [.str a, .str b]) = false := decide_eq_false h
  unfold pairB
  rw [e, Bool.and_false, Bool.and_false]
theorem badP_ok {ns : List Str} (N : NamesOk ns) : ∀ d ∈ badP ns, pairsB ns d = false ∧ Okv d := by
  have fh := fc_word (N.word _ (head_mem N.one))
  have one : ∀ {e : PyData}, Fc 1131 2 e → Okv (.list [e]) := fun {e} he => okv_l (n := 0) (fun d hd => by
    rw [List.mem_singleton.mp hd]
    exact he) (by show 1 ≤ 12; decide)
  intro d hd
  rcases List.mem_cons.mp hd with rfl | hd
  · exact ⟨rfl, fc_non.okv (by decide) (by decide)⟩
  rcases List.mem_cons.mp hd with rfl | hd
  · exact ⟨rfl, fc_int5.okv (by decide) (by decide)⟩
  rcases List.mem_cons.mp hd with rfl | hd
  · exact ⟨rfl, okv_d0⟩
  rcases List.mem_cons.mp hd with rfl | hd
  · exact ⟨rfl, fc_low.okv (by decide) (by decide)⟩
  rcases List.mem_cons.mp hd with rfl | hd
  · exact ⟨rfl, one fc_non.up⟩
  rcases List.mem_cons.mp hd with rfl | hd
  · exact ⟨rfl, one fc_t0.up⟩
  rcases List.mem_cons.mp hd with rfl | hd
  · exact ⟨no_one rfl, one (fc_tup (n := 92) (m := 1) (ds := [.str (ns.headD "")]) (fun d hd => by
      rw [List.mem_singleton.mp hd]
      exact fh) (by show 1 ≤ 12; decide))⟩
  rcases List.mem_cons.mp hd with rfl | hd
  · exact ⟨no_one rfl, one (fc_list (n := 92) (m := 1) (ds := [.str (ns.headD ""), .str (ns.headD "")]) (fun d hd => by
      rcases List.mem_cons.mp hd with rfl | hd
      · exact fh
      · rw [List.mem_singleton.mp hd]
        exact fh) (by show 2 ≤ 12; decide))⟩
  rw [List.mem_singleton.mp hd]
  exact ⟨no_one (no_ord (Nat.lt_irrefl _)), one (fc_tup (n := 92) (m := 1) (ds := [.str (ns.headD ""), .str (ns.headD "")]) (fun d hd => by
      rcases List.mem_cons.mp hd with rfl | hd
      · exact fh
      · rw [List.mem_singleton.mp hd]
        exact fh) (by show 2 ≤ 12; decide))⟩
theorem badX_ok {ns : List Str} (N : NamesOk ns) (R : Drn ns) : ∀ x ∈ badX ns, pairB ns x = false ∧ Fc 1131 2 x := by
  have fh := fc_word (N.word _ (head_mem N.one))
  have fl := fc_word (N.word _ (last_is N.one).2)
  have two : ∀ {a b : PyData}, Fc 92 1 a → Fc 92 1 b → Fc 1131 2 (.tuple [a, b]) := fun {a b} ha hb => fc_tup (n := 92) (m := 1) (ds := [a, b]) (fun d hd => by
      rcases List.mem_cons.mp hd with rfl | hd
      · exact ha
      · rw [List.mem_singleton.mp hd]
        exact hb) (by show 2 ≤ 12; decide)
  intro d hd
  rcases List.mem_cons.mp hd with rfl | hd
  · refine ⟨no_ord ?_, two fl fh⟩
    rw [head_ix N]
    exact Nat.not_lt_zero _
  rcases List.mem_cons.mp hd with rfl | hd
  · refine ⟨?_, two (fc_str (by decide +kernel) (by decide +kernel)) fl⟩
    have e : inD ns (.str "nobody") = false := by
      unfold inD
      rw [show strD (.str "nobody") = ("nobody" : Str) from rfl, decide_eq_false fun m => (R _ m).2 rfl, Bool.and_false]
    unfold pairB
    rw [show seqOf (.tuple [.str "nobody", .str (lastN ns)]) = [.str "nobody", .str (lastN ns)] from rfl, List.all_cons, e, Bool.false_and, Bool.false_and, Bool.and_false]
  rcases List.mem_cons.mp hd with rfl | hd
  · refine ⟨?_, two fh fc_l0⟩
    have e : inD ns (.list []) = false := rfl
    unfold pairB
    rw [show seqOf (.tuple [.str (ns.headD ""), .list []]) = [.str (ns.headD ""), .list []] from rfl, List.all_cons, List.all_cons, e, Bool.false_and, Bool.and_false, Bool.false_and, Bool.and_false]
  rw [List.mem_singleton.mp hd]
  refine ⟨rfl, fc_tup (n := 92) (m := 1) (ds := [.str (ns.headD ""), .str "other", .int 1]) (fun d hd => ?_) (by show 3 ≤ 12; decide)⟩
  rcases List.mem_cons.mp hd with rfl | hd
  · exact fh
  rcases List.mem_cons.mp hd with rfl | hd
  · exact fc_str (by decide +kernel) (by decide +kernel)
  rw [List.mem_singleton.mp hd]
  exact fc_int1
theorem more_no {ns : List Str} {ps : List (Str × Str)} {x : PyData} (h : pairB ns x = false) : pairsB ns (.list (prs ps ++ [x])) = false := by
  unfold pairsB
  rw [show seqOf (.list (prs ps ++ [x])) = prs ps ++ [x] from rfl, List.all_append, List.all_cons, h, Bool.false_and, Bool.and_false, Bool.and_false]
theorem more_okv {ns : List Str} {ps : List (Str × Str)} {x : PyData} (N : NamesOk ns) (O : PairsOk ns ps) (h : Fc 1131 2 x) : Okv (.list (prs ps ++ [x])) := okv_l (n := 0) (fun d hd => by
  rcases List.mem_append.mp hd with z | z
  · exact (pair_good N O d z).2
  · rw [List.mem_singleton.mp z]
    exact h) (by rw [List.length_append, len_prs]; have := O.1; show ps.length + 1 ≤ 12; omega)
end K01
set_option maxHeartbeats 16000000
namespace K01
open PySem PySem.Spec PyProof.Rows L2 Evl My LamX
abbrev sLaw : Stmt := top 25
def NLw : List Str := ["_law_script", "_law_k", "_law_pool_here", "_law_names", "_law_pairs", "_law_below_here", "_law_given", "_law_levels", "_law_again", "_law_bad", "_law_one"]
theorem scLaw : FnScope NLw ["_law_script"] (defScope sLaw) := ⟨rfl, rfl, rfl, by decide +kernel, rfl, by decide +kernel, by decide +kernel⟩
def spLaw (K : PySem.W.Frag) (T : List (Addr × Str)) : Sp := fun vs H Q _ => ∃ (a : Addr) (ns : List Int), vs = [.ref a] ∧ SqL K H a (ns.map V.int) ∧ ns.length ≤ 63 ∧ Tabs T H ∧ ∀ H', Q (.bl true) H'
section
variable {P : Program} {w : World} {K : PySem.W.Frag} {mg : Str → Option Value} {base : Heap} {f C D D1 cM c Pt : Addr} {T : List (Addr × Str)} {oc : Value} {od an : Option Addr} {osl : Array (Option Value)} {kV doc pm ct : Value}
theorem ok_law (lk : K.lookup f = some ⟨oc, od, .func (PySem.W.fnOf "law" "law" (defArgs sLaw) (defBody sLaw) (defScope sLaw) .none kV doc pm an (.ref c) ct), osl⟩) (code : PySem.W.codeIn K (.ref c) "law" = true)
    (R : Kf P w K mg base cM D1 D) (TB : TabB base mg c Pt) (hmT : (Pt, ("law" : Str) ++ ".<locals>." ++ "<lambda>") ∈ T) (hu : ∀ p ∈ T, p.1 = Pt → p.2 = ("law" : Str) ++ ".<locals>." ++ "<lambda>")
    (TX : Txt mg) (hR : mg "range" = none) (hMx : mg "max" = none) (hMn : mg "min" = none)
    (M : Lms P w K mg base C D) (NL : MD P w K mg base C "names" ["self"] 1 (sp0L C)) (LM : MkL P w K mg base C D1) (EQ : EqL P w K mg base C)
    (IW : Df P w K mg base "is_word" ["thing"] 1 (spD K (fun ds => ∃ d, ds = [d] ∧ small d = true) fun ds => .bool (wordD (ds.headD .none))))
    (PL : Df P w K mg base "_law_pool" ["_law_script", "_law_k"] 1 (spPool K)) (DR : Df P w K mg base "_law_drawn" ["_law_pool_here"] 2 (spDrawn K)) (BE : Df P w K mg base "_law_below" ["_law_names", "_law_pairs"] 1 (spBelow K))
    (RT : DfG P w K mg base "_law_right" ["_law_levels", "_law_names", "_law_below_here"] 5 (spRt K C)) (NO : Df P w K mg base "_law_no_levels" ["_law_names"] 1 (spNo K)) (DO : DfG P w K mg base "_law_doors_right" ["_law_levels", "_law_names"] 7 (spDoors K C T)) :
    FnG P w K mg base CX0 8 f (PySem.W.fnOf "law" "law" (defArgs sLaw) (defBody sLaw) (defScope sLaw) .none kV doc pm an (.ref c) ct) ["_law_script"] (spLaw K T) := by
  refine FnG.byBodyAt lk code scLaw (fun vs H Q E h => ?_) (fun A outer s H vs Q E hg hr h => ?_)
  · obtain ⟨a, ns, rfl, _⟩ := h
    rfl
  · obtain ⟨a, ns, rfl, hS, hlen, tb, kQ⟩ := h
    have hr7 : Room 7 _ := hr
    have hrk : Room 7 _ := hr
    have hr5 : Room 5 _ := hr.mono (by decide)
    have hr3 : Room 3 _ := hr.mono (by decide)
    have hr2 : Room 2 _ := hr.mono (by decide)
    have hr1 : Room 1 _ := hr.mono (by decide)
    have hun : (A.deeper (envOfC "law" (defScope sLaw) s.heap.objs.size f (.ref c))).units + 200 < cLine := by
      have := hr.un
      omega
    refine ⟨_, PSs.nox (pss_cons (ps_for PassesOwn.never rfl (pi_range1 rfl hR (pa_cons (pe_callB (call_max2 rfl) (by rfl) hMx (by decide +kernel) (pa_cons pe_int (pa_cons (pe_callB (call_min2 rfl) (by rfl) hMn (by decide +kernel) (pa_cons (pe_callB call_len_seq (by rfl) TX.len (by decide +kernel) (pa_cons (pv 0) pa_nil)) (pa_cons pe_int pa_nil))) pa_nil))) pa_nil)) (pg_name (i := 1) scLaw.nd rfl (Or.inl rfl)) (pss_cons (ps_set (i := 2) scLaw.nd rfl (Or.inl rfl) (pe_df PL hr1 rfl (pa_cons (pv 0) (pa_cons (pv 1) pa_nil))))
      (pss_cons (ps_asg (pe_df DR hr2 rfl (pa_cons (pv 2) pa_nil)) (pg_unl rfl (pgs_cons (pg_name (i := 3) scLaw.nd rfl (Or.inr rfl)) (pgs_cons (pg_name (i := 4) scLaw.nd rfl (Or.inr rfl)) pgs_nil))))
      (pss_cons (ps_par (i := 5) (j := 6) rfl scLaw.nd rfl rfl (by decide) rfl rfl (pa_cons (pe_df BE hr1 rfl (pa_cons (pv 3) (pa_cons (pv 4) pa_nil))) (pa_cons (pe_callB (call_reprU hg hun) (by rfl) R.rep (by decide +kernel) (pa_cons (pe_lst (pa_cons (pv 3) (pa_cons (pv 4) pa_nil))) pa_nil)) pa_nil)) (by rfl))
      (pss_cons (ps_set (i := 7) scLaw.nd rfl (Or.inl rfl) (mkLv LM hr5 rfl noWay (pa_cons (pv 3) (pa_cons (pv 4) pa_nil))))
      (pss_cons (ps_if (PW.pt (pw_or (pt_not (pt_val (pe_dfG RT hg hr5 rfl (pa_cons (pv 7) (pa_cons (pv 3) (pa_cons (pv 5) pa_nil)))))) (pw_or1 (pt_cmpR op_ne (pe_callB (call_reprU hg hun) (by rfl) R.rep (by decide +kernel) (pa_cons (pe_lst (pa_cons (pv 3) (pa_cons (pv 4) pa_nil))) pa_nil)) (pv 6) (nomark _))))) (pss_one (ps_ret pe_bl)) pss_nil)
      (pss_cons (ps_set (i := 8) scLaw.nd rfl (Or.inl rfl) (mkLv LM hr5 rfl noWay (pa_cons (pe_callTy call_tuple_of (by rfl) TX.tup (by decide +kernel) (pa_cons (pv 3) pa_nil)) (pa_cons (pe_callTy call_tuple_of (by rfl) TX.tup (by decide +kernel) (pa_cons (pe_rev (pv 4) (po_some (pe_un un_neg pe_int))) pa_nil)) pa_nil))))
      (pss_cons (ps_if (PW.pt (pw_or (pt_not (pt_cmpR (op_eqL EQ hr1) (pv 8) (pv 7) (nomark _))) (pw_or (pt_cmpR (op_eqL EQ hr1) (pv 7) (pv 3) (nomark _)) (pw_or (pt_cmpR (op_eqL EQ hr1) (pv 7) pe_str (nomark _)) (pw_or1 (pt_cmpR (op_eqL EQ hr1) (pv 7) pe_int (nomark _))))))) (pss_one (ps_ret pe_bl)) pss_nil)
      (pss_cons (ps_if (pt_cmpR op_ne (pe_cmpR (op_eqL EQ hr1) (mkLv1 LM hr5 rfl noWay (pa_cons (pv 3) pa_nil)) (pv 7) (nomark _)) (pe_cmpR (op_eqDK hr1.units) (pv 5) (pe_df BE hr1 rfl (pa_cons (pv 3) (pa_cons (pe_lst pa_nil) pa_nil))) (nomark _)) (nomark _)) (pss_one (ps_ret pe_bl)) pss_nil)
      (pss_cons (ps_expr (pe_bm PySem.F.plainAttrs_list PySem.F.slot_list_append PySem.F.type_list_append mt_append (pe_md0 NL M.c.cl hr1 (pv 7)) (pa_cons pe_non pa_nil)))
      (pss_cons (ps_if (PW.pt (pw_or (pt_cmpR op_notN (pe_mx M.check M.c.cl hr3 noWay (pv 7) (pa_cons (pe_ix ix_list (pv 3) (pe_un un_neg pe_int) (fun _ _ => rfl)) pa_nil)) pe_non (nomark _)) (pw_or1 (pt_not (pt_val (pe_dfG RT hg hr5 rfl (pa_cons (pv 7) (pa_cons (pv 3) (pa_cons (pv 5) pa_nil))))))))) (pss_one (ps_ret pe_bl)) pss_nil)
      (pss_cons (ps_for PassesOwn.never rfl (pi_list (pe_df NO hr1 rfl (pa_cons (pv 3) pa_nil))) (pg_name (i := 9) scLaw.nd rfl (Or.inr rfl)) (pss_one (ps_if (pt_cmpR (op_neD hr1.units) (pe_kept (T := T) (t := fun E => tMake C (spInit K C D1) [] E (tCons (tVar 9) (tCons (tC .non) tNil))) R rfl rfl hg hrk rfl TB rfl hmT hu (by exact lamS_by (sc := defScope sLaw) (by decide +kernel)) rfl (fun _ _ _ _ _ => rfl) (fun A outer s H E f c' r => mkLv LM r rfl lamPass (pa_cons (pv 9) (pa_cons pe_non pa_nil))) (tm_make ms_i (ma_cons mt_var (ma_cons mt_c ma_nil)))) (pe_lst (pa_cons pe_bl (pa_cons pe_bl (pa_cons (pe_callB (call_reprU hg hun) (by rfl) R.rep (by decide +kernel) (pa_cons (pv 9) pa_nil)) pa_nil)))) (nomark _)) (pss_one (ps_ret pe_bl)) pss_nil)))
      (pss_cons (ps_for PassesOwn.never rfl (pi_list (pe_lst (pa_cons pe_non (pa_cons pe_int (pa_cons pe_dnewK (pa_cons pe_str (pa_cons (pe_lstB (pa_cons pe_non pa_nil)) (pa_cons (pe_lstB (pa_cons (pe_tup pa_nil) pa_nil)) (pa_cons (pe_lstB (pa_cons (pe_tup (pa_cons (pe_ix ix_list (pv 3) pe_int (fun _ _ => rfl)) pa_nil)) pa_nil)) (pa_cons (pe_lstB (pa_cons (pe_lstB (pa_cons (pe_ix ix_list (pv 3) pe_int (fun _ _ => rfl)) (pa_cons (pe_ix ix_list (pv 3) pe_int (fun _ _ => rfl)) pa_nil))) pa_nil)) (pa_cons (pe_lstB (pa_cons (pe_tup (pa_cons (pe_ix ix_list (pv 3) pe_int (fun _ _ => rfl)) (pa_cons (pe_ix ix_list (pv 3) pe_int (fun _ _ => rfl)) pa_nil))) pa_nil)) pa_nil))))))))))) (pg_name (i := 9) scLaw.nd rfl (Or.inr rfl)) (pss_one (ps_if (pt_cmpR (op_neD hr1.units) (pe_kept (T := T) (t := fun E => tMake C (spInit K C D1) [] E (tCons (tVar 3) (tCons (tVar 9) tNil))) R rfl rfl hg hrk rfl TB rfl hmT hu (by exact lamS_by (sc := defScope sLaw) (by decide +kernel)) rfl (fun _ _ _ _ _ => rfl) (fun A outer s H E f c' r => mkLv LM r rfl lamPass (pa_cons (pv 3) (pa_cons (pv 9) pa_nil))) (tm_make ms_i (ma_cons mt_var (ma_cons mt_var ma_nil)))) (pe_lst (pa_cons pe_bl (pa_cons pe_bl (pa_cons (pe_callB (call_reprU hg hun) (by rfl) R.rep (by decide +kernel) (pa_cons (pv 9) pa_nil)) pa_nil)))) (nomark _)) (pss_one (ps_ret pe_bl)) pss_nil)))
      (pss_cons (ps_for PassesOwn.never rfl (pi_list (pe_lst (pa_cons (pe_lstB (pa_cons (pe_tup (pa_cons (pe_ix ix_list (pv 3) (pe_un un_neg pe_int) (fun _ _ => rfl)) (pa_cons (pe_ix ix_list (pv 3) pe_int (fun _ _ => rfl)) pa_nil))) pa_nil)) (pa_cons (pe_lstB (pa_cons (pe_tup (pa_cons pe_str (pa_cons (pe_ix ix_list (pv 3) (pe_un un_neg pe_int) (fun _ _ => rfl)) pa_nil))) pa_nil)) (pa_cons (pe_lstB (pa_cons (pe_tup (pa_cons (pe_ix ix_list (pv 3) pe_int (fun _ _ => rfl)) (pa_cons (pe_lstB pa_nil) pa_nil))) pa_nil)) (pa_cons (pe_lstB (pa_cons (pe_tup (pa_cons (pe_ix ix_list (pv 3) pe_int (fun _ _ => rfl)) (pa_cons pe_str (pa_cons pe_int pa_nil)))) pa_nil)) pa_nil)))))) (pg_name (i := 9) scLaw.nd rfl (Or.inr rfl)) (pss_one (ps_if (pt_cmpR (op_neD hr1.units) (pe_kept (T := T) (t := fun E => tMake C (spInit K C D1) [] E (tCons (tVar 3) (tCons (tOp (rCatQ K) (tVar 4) (tVar 9)) tNil))) R rfl rfl hg hrk rfl TB rfl hmT hu (by exact lamS_by (sc := defScope sLaw) (by decide +kernel)) rfl (fun _ _ _ _ _ => rfl) (fun A outer s H E f c' r => mkLv LM r rfl lamPass (pa_cons (pv 3) (pa_cons (pe_op op_catQ (pv 4) (pv 9)) pa_nil))) (tm_make ms_i (ma_cons mt_var (ma_cons (mt_catQ mt_var mt_var) ma_nil)))) (pe_lst (pa_cons pe_bl (pa_cons pe_bl (pa_cons (pe_callB (call_reprU hg hun) (by rfl) R.rep (by decide +kernel) (pa_cons (pe_op op_catQ (pv 4) (pv 9)) pa_nil)) pa_nil)))) (nomark _)) (pss_one (ps_ret pe_bl)) pss_nil)))
      (pss_one (ps_if (pt_not (pt_val (pe_dfG DO hg hr7 rfl (pa_cons (pv 7) (pa_cons (pv 3) pa_nil))))) (pss_one (ps_ret pe_bl)) pss_nil))))))))))))))))
      (pss_one (ps_ret (pe_cmpR (op_eqD hr1.units) (pe_lc (own := [("_law_one", 10)]) (g := gName 10) (tt := tYes) (te := tCall (spD K (fun ds => ∃ d, ds = [d] ∧ small d = true) fun ds => .bool (wordD (ds.headD .none))) [] E0 (tCons (tVar 10) tNil)) rfl scLaw.nd (pi_list (pe_lst (pa_cons pe_str (pa_cons pe_str (pa_cons pe_str (pa_cons pe_non pa_nil)))))) (blkOk_by (own := [("_law_one", 10)]) (N := NLw) (sc := defScope sLaw) (by decide +kernel)) (fun _ _ _ _ _ => pg_name (i := 10) scLaw.nd rfl (Or.inl rfl)) (fun _ _ _ _ _ => pts_nil) (fun _ _ _ _ _ => pe_df IW hr1 rfl (pa_cons (pv 10) pa_nil))) (pe_lst (pa_cons pe_bl (pa_cons pe_bl (pa_cons pe_bl (pa_cons pe_bl pa_nil))))) (nomark _))))), ?_⟩
    have eight := turns8 (j := ((ns.map V.int).length : Int)) (by omega)
    refine q_forR1 (ea_cons (ev_max2 ev_c (ev_min2 (ev_len (ev_var rfl) hS) ev_c)) ea_nil) ⟨Int.le_trans (by decide) eight.2, Int.le_trans eight.1 (by decide)⟩
      (fun i σ' H' => ExtN H H' ∧ Tabs T H' ∧ ∃ x1 x2 x3 x4 x5 x6 x7 x8 x9 x10 : Option V, σ' = [some (.ref a), x1, x2, x3, x4, x5, x6, x7, x8, x9, x10]) ?_ ?_ ?_
    · intro H1 e1
      exact ⟨ExtN.of e1, tabs_ext tb e1, none, none, none, none, none, none, none, none, none, none, rfl⟩
    · rintro i σ' H1 hi ⟨e1, t1, x1, x2, x3, x4, x5, x6, x7, x8, x9, x10, rfl⟩
      have hi8 : (i : Int) < 8 := Int.lt_of_lt_of_le hi eight.1
      refine ⟨_, rfl, _, rfl, a, ns, i, rfl, sql_extN e1 hS, hlen, by omega, fun p c0 z0 H2 np e2 h2 cn zn zl => ?_⟩
      refine ⟨_, rfl, p, rfl, ⟨c0, z0, h2, cn, zn, zl⟩, fun r nl pl us nms ps H3 b3 hr3' hn3 hp3 gd3 N O dr => ?_⟩
      refine ⟨r, _, rfl, sq_of hr3', rfl, _, _, rfl, _, _, rfl, rfl, ?_⟩
      have t3 : Tabs T H3 := tabs_but (tabs_ext t1 e2) ⟨c0, z0, h2, cn, zn, zl⟩ b3
      have e13 : ExtN H H3 := e1.trans (extN_but (ExtN.of e2) np b3)
      have gN : ∀ {H'}, ExtN H3 H' → Dd K H' (.ref nl) (.list (txts nms)) := fun e => dd_extN e _ _ (.lst (sq_of hn3) (Dds.strs _))
      have gP : ∀ {H'}, ExtN H3 H' → Dd K H' (.ref pl) (.list (prs ps)) := fun e => dd_extN e _ _ (.lst (sq_of hp3) gd3)
      have hN : ∀ {H'}, ExtN H3 H' → SqL K H' nl (nms.map V.str) := fun e => sql_extN e (sq_of hn3)
      have smN := (fc_names N).sm
      have smP := (fc_pairs N O).sm
      have ok : LvOk nms (belF nms ps nms) := lv_ok N
      have ok0 : LvOk nms (belF nms [] nms) := lv_ok N
      -- what the law says
      refine ⟨_, rfl, _, rfl, nl, .ref pl, .list (prs ps), nms, ps, rfl, sq_of hn3, N, gP (ExtN.refl _), rfl, rfl, O, fun b H4 e4 nb dc => ?_⟩
      have both : ∀ {σ : L2.St} {H'}, σ[3]? = some (some (.ref nl)) → σ[4]? = some (some (.ref pl)) → ExtN H3 H' → Ev (tCB (rRepr K) (tCons (tLst (tCons (tVar 3) (tCons (tVar 4) tNil))) tNil)) σ H' (.str (PyData.list [.list (txts nms), .list (prs ps)]).shown) := fun h3 h4 e => ev_reprO (ed_ofL (edl_lst (eds_cons (ed_var h3 (gN e)) (eds_cons (ed_var h4 (gP e)) eds_nil)) (by show 2 ≤ 100000; decide))) (fc_both N O).tb
      refine both rfl rfl (ExtN.of e4) H4 (Ex.refl _) _ fun H5 e5 => ⟨_, _, rfl, ?_⟩
      have f5 : ExtN H3 H5 := ExtN.of (e4.trans e5)
      have t5 : Tabs T H5 := tabs_ext (tabs_ext t3 e4) e5
      have dc5 := dc.ext e5
      generalize (PyData.list [.list (txts nms), .list (prs ps)]).shown = told at both
      -- the levels
      refine q_asgLv (ns := nms) (bl := belF nms ps nms) (made2 (d1 := .list (txts nms)) (d2 := .list (prs ps)) (eds_cons (ed_var rfl (gN f5)) (eds_cons (ed_var rfl (gP f5)) eds_nil)) N rfl rfl smN O rfl rfl smP (fun _ m => m) O.1) fun L H6 e6 lv => ?_
      have f6 := f5.trans (ExtN.of e6)
      have t6 := tabs_ext t5 e6
      have dc6 := dc5.ext e6
      have rightE : ∀ {σ : L2.St} {H'}, σ[7]? = some (some (.ref L)) → σ[3]? = some (some (.ref nl)) → σ[5]? = some (some (.ref b)) → ExtN H6 H' → Ev (tCall (spRt K C) [] E0 (tCons (tVar 7) (tCons (tVar 3) (tCons (tVar 5) tNil)))) σ H' (.bl true) := fun h7 h3 h5 e H1 e1 Q q =>
        ⟨_, h7, _, h3, _, h5, L, nl, b, nms, _, rfl, (lv.extN e).ext e1, ok, hN ((f6.trans e).trans (ExtN.of e1)), (dc6.extN e).ext e1, fun H2 e2 => q H2 e2⟩
      refine q_when (b := false || false) (et_or (et_not (et_B (rightE rfl rfl rfl (ExtN.refl _)))) fun _ => et_is (et_test (ev_op (both rfl rfl f6) (ev_var rfl) (rv_ne rfl))) (by simp)) (fun hb => by cases hb) fun _ H7 e7 => ?_
      have f7 := f6.trans (ExtN.of e7)
      have t7 := tabs_ext t6 e7
      -- again
      have O2 : PairsOk nms ps.reverse := ⟨by rw [List.length_reverse]; exact O.1, fun q m => O.2 q (List.mem_reverse.mp m)⟩
      have smT : small (.tuple (txts nms)) = true := (fc_tup (fc_txts N) (by rw [len_txts]; have := N.eight; omega)).sm
      have smR : small (.tuple (prs ps.reverse)) = true := (fc_tup (fun d hd => (pair_good N O2 d hd).2) (by rw [len_prs]; have := O2.1; omega)).sm
      have rev : (prs ps).reverse = prs ps.reverse := by
        unfold prs
        rw [List.map_reverse]
      refine q_asgLv (ns := nms) (bl := belF nms ps.reverse nms) (made2 (d1 := .tuple (txts nms)) (d2 := .tuple (prs ps.reverse)) (eds_cons (ed_tupL (ed_var rfl (gN f7))) (eds_cons (ed_tupL (ed_is (ed_rev (ed_var rfl (gP f7)) fun _ _ => ev_un ev_c ru_neg) (by rw [rev]))) eds_nil)) N rfl rfl smT O2 rfl rfl smR (fun _ m => m) O2.1) fun J2 H8 e8 lv2 => ?_
      rw [belF_rev] at lv2
      have f8 := f7.trans (ExtN.of e8)
      have t8 := tabs_ext t7 e8
      have lv8 := (lv.ext e7).ext e8
      have self : sameL nms (belF nms ps nms) nms (belF nms ps nms) = true := by
        rw [sameL_all]
        exact List.all_eq_true.mpr fun s _ => decide_eq_true rfl
      refine q_when (b := false || (false || (false || false))) (et_or (et_is (et_not (et_test (ev_eqLL EQ ok ok (lv_var rfl lv2) fun H1 e1 => lv_var rfl (lv8.ext e1)))) (by rw [self]; rfl)) fun _ => et_or (et_test (ev_eqLD EQ ok (lv_var rfl lv8) fun H1 e1 => ed_var rfl (gN (f8.trans (ExtN.of e1))))) fun _ =>
        et_or (et_test (ev_eqLD EQ ok (lv_var rfl lv8) fun H1 e1 => ed_str ev_c)) fun _ => et_test (ev_eqLD EQ ok (lv_var rfl lv8) fun H1 e1 => ed_int ev_c)) (fun hb => by cases hb) fun _ H9 e9 => ?_
      have f9 := f8.trans (ExtN.of e9)
      have t9 := tabs_ext t8 e9
      have lv9 := lv8.ext e9
      have dc9 := ((dc6.ext e7).ext e8).ext e9
      -- no pairs
      have O0 : PairsOk nms [] := ⟨Nat.zero_le _, fun q m => nomatch m⟩
      refine q_when (b := false) (et_is (et_test (ev_op (ev_eqLL EQ ok0 ok (made3 (eds_cons (ed_var rfl (gN f9)) eds_nil) N) fun H1 e1 => lv_var rfl (lv9.ext e1))
        (ev_eqDn (bl2 := belF nms [] nms) (fun s hs => ⟨fun w m => N.word w (ok.sub s w m), fun w m => N.word w (ok0.sub s w m)⟩) (ev_var rfl) dc9 fun H1 e1 Q q => ⟨_, rfl, (by show 0 ≤ sizeLine; exact Nat.zero_le _), fun pe hpe => ⟨nl, .ref pe, .list [], nms, [], rfl, hN ((f9.trans (ExtN.of e1)).trans (ExtN.of (Ex.new hpe))), N, .lst (sq_of upd_same) .nil, rfl, rfl, O0, fun b2 H2 e2 _ dc2 => q b2 H2 ((Ex.new hpe).trans e2) dc2⟩⟩) (rv_ne rfl)))
        (by rw [sameL_all, all_sym]; simp)) (fun hb => by cases hb) fun _ H10 e10 => ?_
      have f10 := f9.trans (ExtN.of e10)
      have t10 := tabs_ext t9 e10
      have lv10 := lv9.ext e10
      have dc10 := dc9.ext e10
      -- a list of its own
      obtain ⟨dxA, fsA, hA1, hA2⟩ := lv_ins lv10
      refine ⟨_, rfl, L, dxA, fsA, rfl, hA1, hA2 _ (fun _ _ => rfl), L, nms, _, rfl, lv10, ok, fun q Hq nq eq hq => ⟨.inl ⟨rfl, _, sq_of hq⟩, q, _, .non, rfl, rfl, hq, sz_lt (by rw [List.length_map]; have := N.eight; omega), ?_⟩⟩
      have e11 : Ex H10 (upd Hq q (.lst (nms.map V.str ++ [.non]))) := fun x o h => by
        rw [upd_ne (ne_of_none h nq)]
        exact eq x o h
      generalize upd Hq q (.lst (nms.map V.str ++ [.non])) = H11 at e11
      have f11 := f10.trans (ExtN.of e11)
      have t11 := tabs_ext t10 e11
      have lv11 := lv10.ext e11
      have dc11 := dc10.ext e11
      have g6 : ExtN H6 H11 := ExtN.of (((((e7.trans e8).trans e9).trans e10)).trans e11)
      have lastE : ∀ {σ : L2.St} {H'}, σ[3]? = some (some (.ref nl)) → ExtN H3 H' → Ev (tOp (rIxL K) (tVar 3) (tC (.int (-1)))) σ H' (.str (lastN nms)) := fun h3 e => ev_op (ev_var h3) ev_c (rv_ixL (hN e) (last_is N.one).1)
      have lastU : ∀ {σ : L2.St} {H'} {tn : TE}, σ[3]? = some (some (.ref nl)) → ExtN H3 H' → Ev tn σ H' (.int (-1)) → Ev (tOp (rIxL K) (tVar 3) tn) σ H' (.str (lastN nms)) := fun h3 e hn => ev_op (ev_var h3) hn (rv_ixL (hN e) (last_is N.one).1)
      have headE : ∀ {σ : L2.St} {H'}, σ[3]? = some (some (.ref nl)) → ExtN H3 H' → Ev (tOp (rIxL K) (tVar 3) (tC (.int 0))) σ H' (.str (nms.headD "")) := fun h3 e => ev_op (ev_var h3) ev_c (rv_ixL (hN e) (heads N.one))
      have r11 : Ev (tCall (spRt K C) [] E0 (tCons (tVar 7) (tCons (tVar 3) (tCons (tVar 5) tNil)))) ([some (.ref a), some (.int (i : Int)), some (.ref p), some (.ref nl), some (.ref pl), some (.ref b), some (.str told), some (.ref L), some (.ref J2), x9, x10] : L2.St) H11 (.bl true) := rightE rfl rfl rfl g6
      have chk : EvD K (tMeth C "check" (sp1 K C D fun _ _ _ => .none) [] (fun _ _ _ => False) (tVar 7) (tCons (tOp (rIxL K) (tVar 3) (tUn (rU fun i => V.int (-i)) (tC (V.int 1)))) tNil)) ([some (.ref a), some (.int (i : Int)), some (.ref p), some (.ref nl), some (.ref pl), some (.ref b), some (.str told), some (.ref L), some (.ref J2), x9, x10] : L2.St) H11 .none := ed_m1 (F := fun _ _ _ => .none) (fun _ _ => rfl) lv11 ok (ev_var rfl) (lastU rfl f11 (ev_un ev_c ru_neg)) (last_is N.one).2
      show tSeq _ _ _ ([some (.ref a), some (.int (i : Int)), some (.ref p), some (.ref nl), some (.ref pl), some (.ref b), some (.str told), some (.ref L), some (.ref J2), x9, x10] : L2.St) _
      refine q_when (b := false || false) (et_or (et_is (et_test (ev_notN chk.non ev_c)) rfl) fun _ => et_not (et_B r11)) (fun hb => by cases hb) fun _ H12 e12 => ?_
      have f12 := f11.trans (ExtN.of e12)
      have t12 := tabs_ext t11 e12
      -- names that are none
      refine q_forNQ (K := K) (T := T) (ds := noLv nms) (fun H1 e1 Q q => ⟨_, rfl, nl, nms, rfl, hN (f12.trans (ExtN.of e1)), N, fun u H2 e2 gu => q u H2 e2 gu⟩)
        (fun σ => ∃ o9 o10 : Option V, σ = [some (.ref a), some (.int (i : Int)), some (.ref p), some (.ref nl), some (.ref pl), some (.ref b), some (.str told), some (.ref L), some (.ref J2), o9, o10]) ⟨_, _, rfl⟩ t12 (fun d hd v σ' G D' S E0 t0 g nx rt => ?_) (fun σ1 H13 S1 e13' t13 => ?_)
      · obtain ⟨o9, o10, rfl⟩ := S
        obtain ⟨no, ov⟩ := noLv_bad N d hd
        exact s_whenN (etN_neD (d := rowD true false d.shown) (evN_kept R.e1 ov.tb fun E H1 e1 hE => go_i (eds_cons (ed_var rfl (dd_extN e1 _ _ g)) (eds_cons (ed_non ev_c) eds_nil)) ov.sm rfl (.inl ⟨no, hE⟩)) (fun H1 e1 => ed_ofL (edl_lst (eds_cons (ed_bl ev_c) (eds_cons (ed_bl ev_c) (eds_cons (ed_str (ev_reprO (ed_var rfl (dd_extN e1 _ _ g)) ov.tb)) eds_nil))) (by simp))) rfl (row_shaped ov.ok) (row_eqv _ _ _)) t0 fun H2 e2 t2 => nx _ H2 ⟨_, _, rfl⟩ e2 t2
      have f13 := f12.trans e13'
      -- pairs that are none
      obtain ⟨o9, o10, rfl⟩ := S1
      refine q_forN (K := K) (T := T) (ds := badP nms) (edl_lst (eds_cons (ed_non ev_c) (eds_cons (ed_int ev_c) (eds_cons ed_dnew (eds_cons (ed_str ev_c) (eds_cons (ed_lst (eds_cons (ed_non ev_c) eds_nil) (by simp)) (eds_cons (ed_lst (eds_cons (ed_tup eds_nil (by simp)) eds_nil) (by simp))
        (eds_cons (ed_lst (eds_cons (ed_tup (eds_cons (ed_str (headE rfl f13)) eds_nil) (by simp)) eds_nil) (by simp)) (eds_cons (ed_lst (eds_cons (ed_lst (eds_cons (ed_str (headE rfl f13)) (eds_cons (ed_str (headE rfl f13)) eds_nil)) (by simp)) eds_nil) (by simp)) (eds_cons (ed_lst (eds_cons (ed_tup (eds_cons (ed_str (headE rfl f13)) (eds_cons (ed_str (headE rfl f13)) eds_nil)) (by simp)) eds_nil) (by simp)) eds_nil))))))))) (by show 9 ≤ 100000; decide))
        (fun σ => ∃ o9 o10 : Option V, σ = [some (.ref a), some (.int (i : Int)), some (.ref p), some (.ref nl), some (.ref pl), some (.ref b), some (.str told), some (.ref L), some (.ref J2), o9, o10]) ⟨_, _, rfl⟩ t13 (fun d hd v σ' G D' S E0 t0 g nx rt => ?_) (fun σ1 H14 S1 e14 t14 => ?_)
      · obtain ⟨o9, o10, rfl⟩ := S
        obtain ⟨no, ov⟩ := badP_ok N d hd
        exact s_whenN (etN_neD (d := rowD true false d.shown) (evN_kept R.e1 ov.tb fun E H1 e1 hE => go_i (d1 := .list (txts nms)) (eds_cons (ed_var rfl (gN ((f13.trans E0).trans e1))) (eds_cons (ed_var rfl (dd_extN e1 _ _ g)) eds_nil)) smN ov.sm (.inr ⟨names_is N rfl rfl, (by rw [show seqOf (.list (txts nms)) = txts nms from rfl, strs_txts]; exact no), hE⟩)) (fun H1 e1 => ed_ofL (edl_lst (eds_cons (ed_bl ev_c) (eds_cons (ed_bl ev_c) (eds_cons (ed_str (ev_reprO (ed_var rfl (dd_extN e1 _ _ g)) ov.tb)) eds_nil))) (by simp))) rfl (row_shaped ov.ok) (row_eqv _ _ _)) t0 fun H2 e2 t2 => nx _ H2 ⟨_, _, rfl⟩ e2 t2
      have f14 := f13.trans e14
      -- one pair too many
      obtain ⟨o9, o10, rfl⟩ := S1
      refine q_forN (K := K) (T := T) (ds := (badX nms).map fun x => .list [x]) (edl_lst (eds_cons (ed_lst (eds_cons (ed_tup (eds_cons (ed_str (lastU rfl f14 (ev_un ev_c ru_neg))) (eds_cons (ed_str (headE rfl f14)) eds_nil)) (by simp)) eds_nil) (by simp))
        (eds_cons (ed_lst (eds_cons (ed_tup (eds_cons (ed_str ev_c) (eds_cons (ed_str (lastU rfl f14 (ev_un ev_c ru_neg))) eds_nil)) (by simp)) eds_nil) (by simp))
        (eds_cons (ed_lst (eds_cons (ed_tup (eds_cons (ed_str (headE rfl f14)) (eds_cons (ed_lst eds_nil (by simp)) eds_nil)) (by simp)) eds_nil) (by simp))
        (eds_cons (ed_lst (eds_cons (ed_tup (eds_cons (ed_str (headE rfl f14)) (eds_cons (ed_str ev_c) (eds_cons (ed_int ev_c) eds_nil))) (by simp)) eds_nil) (by simp)) eds_nil)))) (by show 4 ≤ 100000; decide))
        (fun σ => ∃ o9 o10 : Option V, σ = [some (.ref a), some (.int (i : Int)), some (.ref p), some (.ref nl), some (.ref pl), some (.ref b), some (.str told), some (.ref L), some (.ref J2), o9, o10]) ⟨_, _, rfl⟩ t14 (fun d hd v σ' G D' S E0 t0 g nx rt => ?_) (fun σ1 H15 S1 e15 t15 => ?_)
      · obtain ⟨o9, o10, rfl⟩ := S
        obtain ⟨x, hx, rfl⟩ := List.mem_map.mp hd
        obtain ⟨no, fx⟩ := badX_ok N dr x hx
        have ov := more_okv N O fx
        have z : (prs ps).length + [x].length ≤ 100000 := by
          rw [len_prs]
          have := O.1
          show ps.length + 1 ≤ 100000
          omega
        have cat : ∀ {H'}, ExtN G H' → EvD K (tOp (rCatQ K) (tVar 4) (tVar 9)) ([some (.ref a), some (.int (i : Int)), some (.ref p), some (.ref nl), some (.ref pl), some (.ref b), some (.str told), some (.ref L), some (.ref J2), some v, o10] : L2.St) H' (.list (prs ps ++ [x])) := fun e => ed_ofL (ed_catQ (ed_var rfl (gP ((f14.trans E0).trans e))) (ed_var rfl (dd_extN e _ _ g)) z)
        exact s_whenN (etN_neD (d := rowD true false (PyData.list (prs ps ++ [x])).shown) (evN_kept R.e1 ov.tb fun E H1 e1 hE => go_i (d1 := .list (txts nms)) (d2 := .list (prs ps ++ [x])) (eds_cons (ed_var rfl (gN ((f14.trans E0).trans e1))) (eds_cons (cat e1) eds_nil)) smN ov.sm (.inr ⟨names_is N rfl rfl, (by rw [show seqOf (.list (txts nms)) = txts nms from rfl, strs_txts]; exact more_no no), hE⟩)) (fun H1 e1 => ed_ofL (edl_lst (eds_cons (ed_bl ev_c) (eds_cons (ed_bl ev_c) (eds_cons (ed_str (ev_reprO (cat e1) ov.tb)) eds_nil))) (by simp))) rfl (row_shaped ov.ok) (row_eqv _ _ _)) t0 fun H2 e2 t2 => nx _ H2 ⟨_, _, rfl⟩ e2 t2
      have f15 := f14.trans e15
      -- the doors of the methods
      obtain ⟨o9, o10, rfl⟩ := S1
      have lv15 : LvAt C H15 L nms (belF nms ps nms) := (lv11.ext e12).extN ((e13'.trans e14).trans e15)
      refine s_whenN (T := T) (fun H1 e1 tb1 Q k => ⟨_, rfl, _, rfl, L, nl, nms, _, rfl, lv15.extN e1, ok, hN (f15.trans e1), dr, tb1, fun H2 e2 t2 => ⟨true, rfl, k H2 e2 t2⟩⟩) t15 fun H16 e16 t16 => ?_
      exact ⟨e13.trans (f15.trans e16), t16, _, _, _, _, _, _, _, _, _, _, rfl⟩
    · rintro σ' H1 ⟨e1, t1, x1, x2, x3, x4, x5, x6, x7, x8, x9, x10, rfl⟩
      have comp : EvDL K (tLc (iList K (tLst (tCons (tC (.str "abcdefgh")) (tCons (tC (.str "abcdefghi")) (tCons (tC (.str "")) (tCons (tC .non) tNil)))))) (gName 10) tYes (tCall (spD K (fun ds => ∃ d, ds = [d] ∧ small d = true) fun ds => .bool (wordD (ds.headD .none))) [] E0 (tCons (tVar 10) tNil)) [10]) ([some (.ref a), x1, x2, x3, x4, x5, x6, x7, x8, x9, x10] : L2.St) H1 (((([.str "abcdefgh", .str "abcdefghi", .str "", .none] : List PyData).filter fun _ => true)).map fun d => .bool (wordD d)) :=
        edl_lc (fun _ => true) (fun d => .bool (wordD d)) (it_NL (edl_lst (eds_cons (ed_str ev_c) (eds_cons (ed_str ev_c) (eds_cons (ed_str ev_c) (eds_cons (ed_non ev_c) eds_nil)))) (by show 4 ≤ 100000; decide))) (by show 4 ≤ 40000; decide) (fun _ _ _ => rfl) (fun _ => rfl)
          (fun x d H2 e2 hd g H3 e3 Q q => q H3 (Ex.refl _)) fun x d H2 e2 hd g _ => ed_call (eds_cons (ed_var rfl g) eds_nil) (spD_ok ⟨d, rfl, (by decide +kernel : ∀ d ∈ ([.str "abcdefgh", .str "abcdefghi", .str "", .none] : List PyData), small d = true) d hd⟩ rfl)
      refine s_ret (v := .bl true) (ev_is (ed_eqD (e := .list [.bool true, .bool false, .bool false, .bool false]) (ed_ofL comp) (ed_ofL (edl_lst (eds_cons (ed_bl ev_c) (eds_cons (ed_bl ev_c) (eds_cons (ed_bl ev_c) (eds_cons (ed_bl ev_c) eds_nil)))) (by show 4 ≤ 100000; decide))) (by decide +kernel) (by decide +kernel) (by decide +kernel) (by decide +kernel)) (by decide +kernel)) fun H2 e2 => kQ H2
end
end K01
set_option maxHeartbeats 8000000
/-! the head's facts, gathered -/
namespace K01
open PySem PySem.Spec PyProof.Rows L2 Evl My LamX
structure HasDef (K : PySem.W.Frag) (x : Str) (st : Stmt) (f : Addr) : Prop where
  g : PySem.W.nsIn K mainGlobals x = some (some (.ref f))
  k : PySem.W.keepIn K (.ref f) = true
  F : ∃ fd, Fun K x x st f fd
theorem hasDef {K : PySem.W.Frag} {x : Str} {st : Stmt} {f : Addr} {oc : Value} {od an : Option Addr} {osl : Array (Option Value)} {kV doc pm cdv ct : Value}
    (g : PySem.W.nsIn K mainGlobals x = some (some (.ref f)))
    (lf : K.lookup f = some ⟨oc, od, .func (PySem.W.fnOf x x (defArgs st) (defBody st) (defScope st) .none kV doc pm an cdv ct), osl⟩) (cf : PySem.W.codeIn K cdv x = true) (kf : PySem.W.keepIn K (.ref f) = true) : HasDef K x st f :=
  ⟨g, kf, _, fun_mk lf cf kf⟩
/-- a def whose code object is known -/
structure HasDefC (K : PySem.W.Frag) (x : Str) (st : Stmt) (f c : Addr) : Prop where
  g : PySem.W.nsIn K mainGlobals x = some (some (.ref f))
  k : PySem.W.keepIn K (.ref f) = true
  cd : PySem.W.codeIn K (.ref c) x = true
  l : ∃ oc od kV doc pm an ct osl, K.lookup f = some ⟨oc, od, .func (PySem.W.fnOf x x (defArgs st) (defBody st) (defScope st) .none kV doc pm an (.ref c) ct), osl⟩
theorem hasDefC {K : PySem.W.Frag} {x : Str} {st : Stmt} {f c : Addr} {oc : Value} {od an : Option Addr} {osl : Array (Option Value)} {kV doc pm ct : Value}
    (g : PySem.W.nsIn K mainGlobals x = some (some (.ref f)))
    (lf : K.lookup f = some ⟨oc, od, .func (PySem.W.fnOf x x (defArgs st) (defBody st) (defScope st) .none kV doc pm an (.ref c) ct), osl⟩) (cf : PySem.W.codeIn K (.ref c) x = true) (kf : PySem.W.keepIn K (.ref f) = true) : HasDefC K x st f c :=
  ⟨g, kf, cf, _, _, _, _, _, _, _, _, lf⟩
/-- a method of the class at C -/
structure HasMeth (K : PySem.W.Frag) (C : Addr) (x qual : Str) (st : Stmt) (f : Addr) : Prop where
  a : PySem.W.findIn K (.ref C) x = some (some (.ref f))
  t : PySem.W.typeIn K (.ref f) = some (.type "function")
  F : ∃ fd, Fun K x qual st f fd
theorem hasMeth {K : PySem.W.Frag} {C : Addr} {x qual : Str} {st : Stmt} {f : Addr} {oc : Value} {od an : Option Addr} {osl : Array (Option Value)} {kV doc pm cdv ct : Value}
    (a : PySem.W.findIn K (.ref C) x = some (some (.ref f))) (t : PySem.W.typeIn K (.ref f) = some (.type "function"))
    (lf : K.lookup f = some ⟨oc, od, .func (PySem.W.fnOf x qual (defArgs st) (defBody st) (defScope st) .none kV doc pm an cdv ct), osl⟩) (cf : PySem.W.codeIn K cdv qual = true) (kf : PySem.W.keepIn K (.ref f) = true) : HasMeth K C x qual st f :=
  ⟨a, t, _, fun_mk lf cf kf⟩
theorem HasMeth.m {K : PySem.W.Frag} {C : Addr} {x qual : Str} {st : Stmt} {f : Addr} (h : HasMeth K C x qual st f) : Meth K C x f := by
  obtain ⟨fd, F⟩ := h.F
  exact ⟨h.a, (by unfold PySem.W.isFn; rw [h.t]; rfl), F.kp⟩
/-- a property of the class at C -/
structure HasProp (K : PySem.W.Frag) (C : Addr) (x qual : Str) (st : Stmt) (f p : Addr) : Prop where
  P : PropOf K C x p f
  F : ∃ fd, Fun K x qual st f fd
theorem hasProp {K : PySem.W.Frag} {C p : Addr} {x qual : Str} {st : Stmt} {f : Addr} {oc : Value} {od an : Option Addr} {osl : Array (Option Value)} {kV doc pm cdv ct : Value} {rest : List Value}
    (a : PySem.W.findIn K (.ref C) x = some (some (.ref p))) (r : PySem.W.recIn K p "property" = some (.ref f :: rest)) (g : PySem.W.specialIn K (.ref p) "__get__" = some (some (.builtin "property.__get__"))) (t : PySem.W.takesIn K (.ref p) = some true)
    (lf : K.lookup f = some ⟨oc, od, .func (PySem.W.fnOf x qual (defArgs st) (defBody st) (defScope st) .none kV doc pm an cdv ct), osl⟩) (cf : PySem.W.codeIn K cdv qual = true) (kf : PySem.W.keepIn K (.ref f) = true) : HasProp K C x qual st f p :=
  ⟨⟨a, g, t, _, r⟩, _, fun_mk lf cf kf⟩
/-- __init__, its default an empty tuple -/
structure HasInit (K : PySem.W.Frag) (C f t : Addr) : Prop where
  a : PySem.W.findIn K (.ref C) "__init__" = some (some (.ref f))
  ty : PySem.W.typeIn K (.ref f) = some (.type "function")
  F : ∃ fd, FunD K "__init__" "Levels.__init__" (defArgs mInit) (defBody mInit) (defScope mInit) [.ref t] [] f fd
  e : ∀ H, SqT K H t []
theorem hasInit {K : PySem.W.Frag} {C f t D : Addr} {oc kc : Value} {od an kd td : Option Addr} {osl ksl tsl : Array (Option Value)} {kV doc pm cdv ct : Value} {n m : Nat}
    (a : PySem.W.findIn K (.ref C) "__init__" = some (some (.ref f))) (ty : PySem.W.typeIn K (.ref f) = some (.type "function"))
    (lf : K.lookup f = some ⟨oc, od, .func (PySem.W.fnOf "__init__" "Levels.__init__" (defArgs mInit) (defBody mInit) (defScope mInit) (.ref D) kV doc pm an cdv ct), osl⟩) (cf : PySem.W.codeIn K cdv "Levels.__init__" = true) (kf : PySem.W.keepIn K (.ref f) = true)
    (lD : K.lookup D = some ⟨kc, kd, .seq #[.ref t] n, ksl⟩) (lt : K.lookup t = some ⟨.type "tuple", td, .seq #[] m, tsl⟩) : HasInit K C f t :=
  ⟨a, ty, ⟨_, ⟨⟨oc, od, .ref D, kV, doc, pm, an, cdv, ct, osl, rfl, lf, cf, .inr ⟨by simp, D, _, [.ref t], n, rfl, lD, rfl, .cons rfl .nil⟩, .inl rfl⟩, kf⟩⟩, fun H => .inr ⟨_, #[], m, lt, rfl, rfl, Nat.zero_le _, .nil⟩⟩
section
variable {K : PySem.W.Frag} {f t : Addr} {fd : FuncData}
theorem init_b3 (F : FunD K "__init__" "Levels.__init__" (defArgs mInit) (defBody mInit) (defScope mInit) [.ref t] [] f fd) : Binds K fd ["self", "names", "pairs"] [] := by
  obtain ⟨ds, h, b⟩ := F.binds1 (ps := ["self", "names", "pairs"]) 3 1 (by simp) rfl fun T kV doc pm an cdv ct us its h1 h2 => match us, h1, its, h2 with
    | [a, b, c], _, [x], _ => ⟨_, rfl, rfl⟩
  cases h
  exact b
theorem init_b2 (F : FunD K "__init__" "Levels.__init__" (defArgs mInit) (defBody mInit) (defScope mInit) [.ref t] [] f fd) : Binds K fd ["self", "names", "pairs"] [.ref t] := by
  obtain ⟨ds, h, b⟩ := F.binds1 (ps := ["self", "names", "pairs"]) 2 0 (by simp) rfl fun T kV doc pm an cdv ct us its h1 h2 => match us, h1, its, h2 with
    | [a, b], _, [x], _ => ⟨_, rfl, rfl⟩
  cases h with
  | cons h1 h2 =>
    cases h2
    cases h1
    exact b
end
/-- the class Levels -/
def tyL : List String := ["NoneType", "bool", "int", "str", "list", "tuple", "dict"]
theorem tyD_in (d : PyData) : tyD d ∈ tyL := by
  cases d <;> simp [tyD, tyL]
def lvB (K : PySem.W.Frag) (C : Addr) : Bool :=
  PySem.W.plainGet K C Str.empty && PySem.W.hasDictIn K C && PySem.W.plainOver K C && (PySem.W.findIn K (.ref C) "__setattr__" == some (some (.builtin "object.__setattr__"))) &&
  (PySem.W.findIn K (.ref C) "order" == some none) && (PySem.W.findIn K (.ref C) "below" == some none) && (PySem.W.findIn K (.ref C) "__class__" == some (some (.builtin "object.__class__"))) &&
  (PySem.W.specialIn K (.builtin "object.__class__") "__get__" == some (some (.builtin "getset_descriptor.__get__"))) && (PySem.W.takesIn K (.builtin "object.__class__") == some true) && (PySem.W.mroIn K C (.type "object") == some true) &&
  (PySem.W.kitOne K (.ref C) (.ref C) == some true) && (tyL.all fun t => PySem.W.kitOne K (.type t) (.ref C) == some false) && (tyL.all fun t => PySem.W.notFirst K C (.type t)) && PySem.W.notFirst K C (.ref C) && PySem.W.makesIn K C && PySem.W.keepIn K (.ref C)
structure LvB (K : PySem.W.Frag) (C : Addr) : Prop where
  c : LvC K C
  i : LvI K C
  n : PySem.W.notFirst K C (.ref C) = true
  m : PySem.W.makesIn K C = true
  k : PySem.W.keepIn K (.ref C) = true
theorem lvB_of {K : PySem.W.Frag} {C : Addr} (h : lvB K C = true) : LvB K C := by
  unfold lvB at h
  simp only [Bool.and_eq_true, beq_iff_eq, List.all_eq_true] at h
  obtain ⟨⟨⟨⟨⟨⟨⟨⟨⟨⟨⟨⟨⟨⟨⟨h1, h2⟩, h3⟩, h4⟩, h5⟩, h6⟩, h7⟩, h8⟩, h9⟩, h10⟩, h11⟩, h12⟩, h13⟩, h14⟩, h15⟩, h16⟩ := h
  exact ⟨⟨⟨h1, h2, h3, h4⟩, h5, h6⟩, ⟨h7, h8, h9, h10, h11, fun d => h12 _ (tyD_in d), fun d => h13 _ (tyD_in d)⟩, h14, h15, h16⟩
/-- an own class right under an own class right under ValueError -/
def errB (K : PySem.W.Frag) (C cM C1 C2 : Addr) (b1 b2 : Bool) : Bool :=
  (PySem.W.findIn K (.ref C) "__setattr__" == some (some (.builtin "object.__setattr__"))) && PySem.W.keepIn K (.ref C) && xfB K C && (PySem.W.typeIn K (.ref C) == some (.type "type")) && (PySem.W.exmOne K (.ref C) (.ref cM) == some true) && (PySem.W.findIn K (.ref C) "value" == some none) &&
  (PySem.W.kitOne K (.ref C) (.ref C1) == some b1) && (PySem.W.kitOne K (.ref C) (.ref C2) == some b2) && (PySem.W.findIn K (.ref C) "__class__" == some (some (.builtin "object.__class__"))) &&
  (PySem.W.specialIn K (.builtin "object.__class__") "__get__" == some (some (.builtin "getset_descriptor.__get__"))) && (PySem.W.takesIn K (.builtin "object.__class__") == some true) && (PySem.W.mroIn K C (.type "object") == some true)
structure ErrB (K : PySem.W.Frag) (C cM C1 C2 : Addr) (b1 b2 : Bool) : Prop where
  sa : PySem.W.findIn K (.ref C) "__setattr__" = some (some (.builtin "object.__setattr__"))
  kC : PySem.W.keepIn K (.ref C) = true
  ty : PySem.W.typeIn K (.ref C) = some (.type "type")
  ef : ErF K cM C1 C2 C b1 b2
theorem errB_of {K : PySem.W.Frag} {C cM C1 C2 : Addr} {b1 b2 : Bool} (h : errB K C cM C1 C2 b1 b2 = true) : ErrB K C cM C1 C2 b1 b2 := by
  unfold errB at h
  simp only [Bool.and_eq_true, beq_iff_eq] at h
  obtain ⟨⟨⟨⟨⟨⟨⟨⟨⟨⟨⟨h1, h2⟩, h3⟩, h4⟩, h5⟩, h6⟩, h7⟩, h8⟩, h9⟩, h10⟩, h11⟩, h12⟩ := h
  have x := xfB_ok h3
  have y := h3
  unfold xfB at y
  simp only [Bool.and_eq_true, decide_eq_true_eq] at y
  exact ⟨h1, h2, h4, ⟨⟨y.1, y.2.1, y.2.2.1, y.2.2.2, h9, h10, h11, h12⟩, x, h5, h6, h7, h8⟩⟩
abbrev sInit2 : Stmt := match top 2 with
  | .ClassDef _ _ _ body .. => body.getD 0 (.Pass ⟨0, 0, 0, 0⟩)
  | _ => .Pass ⟨0, 0, 0, 0⟩
abbrev sInit3 : Stmt := match top 3 with
  | .ClassDef _ _ _ body .. => body.getD 0 (.Pass ⟨0, 0, 0, 0⟩)
  | _ => .Pass ⟨0, 0, 0, 0⟩
structure HasErr (K : PySem.W.Frag) (nm0 qual : Str) (st : Stmt) (C cM C1 C2 fI : Addr) (b1 b2 : Bool) : Prop where
  g : PySem.W.nsIn K mainGlobals nm0 = some (some (.ref C))
  l : ∃ nm q N bs sn sub ab col dd k0 k1 k2 k3 k5, K.lookup C = some (excClassObj nm q C N bs (.ref cM :: [.type "ValueError", .type "Exception", .type "BaseException", .type "object"]) true sn sub ab col dd k0 k1 k2 k3 k5 "ValueError.__new__")
  i : PySem.W.findIn K (.ref C) "__init__" = some (some (.ref fI))
  t : PySem.W.typeIn K (.ref fI) = some (.type "function")
  F : ∃ fd, Fun K "__init__" qual st fI fd
  b : ErrB K C cM C1 C2 b1 b2
theorem hasErr {K : PySem.W.Frag} {nm0 qual : Str} {st : Stmt} {C cM C1 C2 fI : Addr} {b1 b2 : Bool} {nm q N bs sn sub ab col dd k0 k1 k2 k3 k5} {oc : Value} {od an : Option Addr} {osl : Array (Option Value)} {kV doc pm cdv ct : Value}
    (g : PySem.W.nsIn K mainGlobals nm0 = some (some (.ref C))) (l : K.lookup C = some (excClassObj nm q C N bs (.ref cM :: [.type "ValueError", .type "Exception", .type "BaseException", .type "object"]) true sn sub ab col dd k0 k1 k2 k3 k5 "ValueError.__new__"))
    (i : PySem.W.findIn K (.ref C) "__init__" = some (some (.ref fI))) (t : PySem.W.typeIn K (.ref fI) = some (.type "function"))
    (lf : K.lookup fI = some ⟨oc, od, .func (PySem.W.fnOf "__init__" qual (defArgs st) (defBody st) (defScope st) .none kV doc pm an cdv ct), osl⟩) (cf : PySem.W.codeIn K cdv qual = true) (kf : PySem.W.keepIn K (.ref fI) = true) (hb : errB K C cM C1 C2 b1 b2 = true) : HasErr K nm0 qual st C cM C1 C2 fI b1 b2 :=
  ⟨g, ⟨_, _, _, _, _, _, _, _, _, _, _, _, _, _, l⟩, i, t, ⟨_, fun_mk lf cf kf⟩, errB_of hb⟩
section
variable {P : Program} {w : World} {K : PySem.W.Frag} {mg : Str → Option Value} {base : Heap} {nm0 qual : Str} {st : Stmt} {C cM C1 C2 fI : Addr} {b1 b2 : Bool}
theorem HasErr.exG (h : HasErr K nm0 qual st C cM C1 C2 fI b1 b2) : ExG K C := by
  obtain ⟨nm, q, N, bs, sn, sub, ab, col, dd, k0, k1, k2, k3, k5, l⟩ := h.l
  exact ⟨⟨nm, q, N, bs, _, sn, sub, ab, col, dd, k0, k1, k2, k3, k5, "ValueError", "ValueError.__new__", _, _, l, PySem.F.excBase_ValueError, ⟨rfl, rfl, rfl⟩, mroValue.cons⟩, h.b.sa, h.b.kC⟩
theorem HasErr.oex (h : HasErr K nm0 qual st C cM C1 C2 fI b1 b2) : OexC K C := by
  obtain ⟨nm, q, N, bs, sn, sub, ab, col, dd, k0, k1, k2, k3, k5, l⟩ := h.l
  exact ⟨⟨nm, q, N, bs, _, sn, sub, ab, col, dd, k0, k1, k2, k3, k5, l, rfl⟩, h.b.sa, h.b.ef.xf.exC, h.b.ty, h.b.kC⟩
theorem HasErr.inv2 (h : HasErr K "InvalidLevels" "InvalidLevels.__init__" sInit2 C cM C1 C2 fI b1 b2) (gC : mg "InvalidLevels" = some (.ref C)) : InvE P w K mg base "InvalidLevels" C := by
  obtain ⟨fd, F⟩ := h.F
  exact ⟨⟨fI, fd, h.oex, h.i, h.t, ok_one F ⟨rfl, rfl, rfl, by decide +kernel, rfl, by decide +kernel, by decide +kernel⟩ ⟨_, _, _, _, rfl⟩ (by decide +kernel) (by decide +kernel) h.exG h.b.ef.no, F.binds fun _ _ _ _ _ _ us hl => match us, hl with | [_, _], _ => rfl⟩, gC⟩
theorem HasErr.inv3 (h : HasErr K "InvalidLevel" "InvalidLevel.__init__" sInit3 C cM C1 C2 fI b1 b2) (gC : mg "InvalidLevel" = some (.ref C)) : InvE P w K mg base "InvalidLevel" C := by
  obtain ⟨fd, F⟩ := h.F
  exact ⟨⟨fI, fd, h.oex, h.i, h.t, ok_one F ⟨rfl, rfl, rfl, by decide +kernel, rfl, by decide +kernel, by decide +kernel⟩ ⟨_, _, _, _, rfl⟩ (by decide +kernel) (by decide +kernel) h.exG h.b.ef.no, F.binds fun _ _ _ _ _ _ us hl => match us, hl with | [_, _], _ => rfl⟩, gC⟩
end
theorem tabs_of {H : Hp} {T : List (Addr × Str)} (h : ∀ p ∈ T, H p.1 = some (.tbl #[])) : Tabs T H := fun p hp => ⟨#[], h p hp, trivial, fun pos cv hc => by
  cases hc⟩
def QD : Str := ("_law_doors_right" : Str) ++ ".<locals>." ++ "<lambda>"
def QL : Str := ("law" : Str) ++ ".<locals>." ++ "<lambda>"
section
variable {l : PySem.W.OpenLaw} {w : World} {K : PySem.W.Frag} {mg : Str → Option Value} {h : Heap} {fa C CA CB cM fA fB fI tI fP pP PA PB cD cL fD fL d0 d1 d2 d3 d4 d5 d6 d7 d8 d9 d10 d11 d12 d13 q0 q1 q2 q3 q4 q5 q6 q7 q8 q9 q10 : Addr} {uL uW uM : Value}
theorem all_mk (X : K.In h) (G : h.Ns mainGlobals mg) (hfa : mg "law" = some (.ref fa)) (tabs : ∀ P ∈ [PA, PB], h.get? P = some (PySem.W.tabObj #[]))
    (E2 : HasErr K "InvalidLevels" "InvalidLevels.__init__" sInit2 CA cM CA CB fA true false) (E3 : HasErr K "InvalidLevel" "InvalidLevel.__init__" sInit3 CB cM CA CB fB false true)
    (gM : PySem.W.nsIn K mainGlobals "MaskError" = some (some (.ref cM))) (gC : PySem.W.nsIn K mainGlobals "Levels" = some (some (.ref C))) (lb : lvB K C = true)
    (iI : HasInit K C fI tI) (iP : HasProp K C "least" "Levels.least" mLeast fP pP)
    (h0 : HasMeth K C "has" "Levels.has" mHas q0)
    (h1 : HasMeth K C "names" "Levels.names" mNames q1)
    (h2 : HasMeth K C "check" "Levels.check" mCheck q2)
    (h3 : HasMeth K C "leq" "Levels.leq" mLeq q3)
    (h4 : HasMeth K C "above" "Levels.above" mAbove q4)
    (h5 : HasMeth K C "downs" "Levels.downs" mDowns q5)
    (h6 : HasMeth K C "ups" "Levels.ups" mUps q6)
    (h7 : HasMeth K C "meet" "Levels.meet" mMeet q7)
    (h8 : HasMeth K C "join" "Levels.join" mJoin q8)
    (h9 : HasMeth K C "__eq__" "Levels.__eq__" mEq q9)
    (h10 : HasMeth K C "__len__" "Levels.__len__" mLen q10)
    (e0 : HasDef K "is_word" sWord d0)
    (e1 : HasDef K "are_names" sNames d1)
    (e2 : HasDef K "is_pair" sPair d2)
    (e3 : HasDef K "are_pairs" sPairs d3)
    (e4 : HasDef K "levels_below" sBelow d4)
    (e5 : HasDef K "_law_pool" sPool d5)
    (e6 : HasDef K "_law_take" sTake d6)
    (e7 : HasDef K "_law_drawn" sDrawn d7)
    (e8 : HasDef K "_law_below" sLBelow d8)
    (e9 : HasDef K "_law_most" sMost d9)
    (e10 : HasDef K "_law_least" sLeast d10)
    (e11 : HasDef K "_law_kept" sKept d11)
    (e12 : HasDef K "_law_right" sRight d12)
    (e13 : HasDef K "_law_no_levels" sNo d13)
    (eD : HasDefC K "_law_doors_right" sDoors fD cD) (eL : HasDefC K "law" sLaw fL cL)
    (hD : PySem.W.codeHdIn K cD PA = true) (hL : PySem.W.codeHdIn K cL PB = true) (nA : K.lookup PA = none) (nB : K.lookup PB = none) (hne : PA ≠ PB)
    (z0 : PySem.W.nsIn K mainGlobals "len" = some none)
    (z1 : PySem.W.nsIn K mainGlobals "all" = some none)
    (z2 : PySem.W.nsIn K mainGlobals "isinstance" = some none)
    (z3 : PySem.W.nsIn K mainGlobals "str" = some none)
    (z4 : PySem.W.nsIn K mainGlobals "list" = some none)
    (z5 : PySem.W.nsIn K mainGlobals "tuple" = some none)
    (z6 : PySem.W.nsIn K mainGlobals "set" = some none)
    (z7 : PySem.W.nsIn K mainGlobals "range" = some none)
    (z8 : PySem.W.nsIn K mainGlobals "max" = some none)
    (z9 : PySem.W.nsIn K mainGlobals "min" = some none)
    (z10 : PySem.W.nsIn K mainGlobals "repr" = some none)
    (gL : PySem.W.nsIn K mainGlobals "LETTERS" = some (some uL)) (gW : PySem.W.nsIn K mainGlobals "LONGEST_WORD" = some (some uW)) (gS : PySem.W.nsIn K mainGlobals "MOST_LEVELS" = some (some uM))
    (rL : RelV (.str LET) uL) (rW : RelV (.int 8) uW) (rM : RelV (.int 8) uM) :
    ∃ (fd : FuncData) (cs : List (Addr × Addr)), (∀ p ∈ cs, h.get? p.2 = some { cls := .none, data := .fields #[] }) ∧ (∀ p ∈ cs, K.lookup p.2 = none) ∧ (∀ p ∈ cs, PySem.W.CodeHd h p.1 p.2) ∧
      (∀ (s : Shared) (u : Value), BindsTo s fd ⟨[u], []⟩ [("_law_script", u)]) ∧
      (∀ (H : Hp) (a : Addr) (ns : List Int), ns.length ≤ 63 → (∀ p ∈ cs, H p.2 = some (.tbl #[])) → SqL K H a (ns.map V.int) → spLaw K [(PA, QD), (PB, QL)] [.ref a] H (fun v _ => v = .bl true) fun _ _ _ => False) ∧
      ∀ base : Heap, K.In base → base.Ns mainGlobals mg → (∀ p ∈ cs, LamX.TabB base mg p.1 p.2) → FnG l.prog w K mg base CX0 8 fa fd ["_law_script"] (spLaw K [(PA, QD), (PB, QL)]) := by
  have e := hfa.symm.trans (PySem.W.mg_of X G eL.g)
  cases e
  have TX : Txt mg := ⟨PySem.W.mg_none_of X G z0, PySem.W.mg_none_of X G z1, PySem.W.mg_none_of X G z2, PySem.W.mg_none_of X G z3, PySem.W.mg_none_of X G z4, PySem.W.mg_none_of X G z5, PySem.W.mg_none_of X G z6, PySem.W.mg_none_of X G z7, PySem.W.mg_none_of X G z8, PySem.W.mg_none_of X G z9, PySem.W.mg_none_of X G z10, ⟨_, PySem.W.mg_of X G gL, rL⟩, ⟨_, PySem.W.mg_of X G gW, rW⟩, ⟨_, PySem.W.mg_of X G gS, rM⟩⟩
  have mM : mg "MaskError" = some (.ref cM) := PySem.W.mg_of X G gM
  have mC : mg "Levels" = some (.ref C) := PySem.W.mg_of X G gC
  have mA : mg "InvalidLevels" = some (.ref CA) := PySem.W.mg_of X G E2.g
  have mB : mg "InvalidLevel" = some (.ref CB) := PySem.W.mg_of X G E3.g
  obtain ⟨c, lvi, nC, mkC, kpC⟩ := lvB_of lb
  obtain ⟨g0, k0, fd0, F0⟩ := e0
  have b0 := F0.binds (ps := ["thing"]) fun _ _ _ _ _ _ us hl => match us, hl with | [_], _ => rfl
  have m0 := PySem.W.mg_of X G g0
  obtain ⟨g1, k1, fd1, F1⟩ := e1
  have b1 := F1.binds (ps := ["thing"]) fun _ _ _ _ _ _ us hl => match us, hl with | [_], _ => rfl
  have m1 := PySem.W.mg_of X G g1
  obtain ⟨g2, k2, fd2, F2⟩ := e2
  have b2 := F2.binds (ps := ["thing", "order"]) fun _ _ _ _ _ _ us hl => match us, hl with | [_, _], _ => rfl
  have m2 := PySem.W.mg_of X G g2
  obtain ⟨g3, k3, fd3, F3⟩ := e3
  have b3 := F3.binds (ps := ["thing", "order"]) fun _ _ _ _ _ _ us hl => match us, hl with | [_, _], _ => rfl
  have m3 := PySem.W.mg_of X G g3
  obtain ⟨g4, k4, fd4, F4⟩ := e4
  have b4 := F4.binds (ps := ["order", "pairs"]) fun _ _ _ _ _ _ us hl => match us, hl with | [_, _], _ => rfl
  have m4 := PySem.W.mg_of X G g4
  obtain ⟨g5, k5, fd5, F5⟩ := e5
  have b5 := F5.binds (ps := ["_law_script", "_law_k"]) fun _ _ _ _ _ _ us hl => match us, hl with | [_, _], _ => rfl
  have m5 := PySem.W.mg_of X G g5
  obtain ⟨g6, k6, fd6, F6⟩ := e6
  have b6 := F6.binds (ps := ["_law_pool_here", "_law_sides"]) fun _ _ _ _ _ _ us hl => match us, hl with | [_, _], _ => rfl
  have m6 := PySem.W.mg_of X G g6
  obtain ⟨g7, k7, fd7, F7⟩ := e7
  have b7 := F7.binds (ps := ["_law_pool_here"]) fun _ _ _ _ _ _ us hl => match us, hl with | [_], _ => rfl
  have m7 := PySem.W.mg_of X G g7
  obtain ⟨g8, k8, fd8, F8⟩ := e8
  have b8 := F8.binds (ps := ["_law_names", "_law_pairs"]) fun _ _ _ _ _ _ us hl => match us, hl with | [_, _], _ => rfl
  have m8 := PySem.W.mg_of X G g8
  obtain ⟨g9, k9, fd9, F9⟩ := e9
  have b9 := F9.binds (ps := ["_law_both", "_law_below_here"]) fun _ _ _ _ _ _ us hl => match us, hl with | [_, _], _ => rfl
  have m9 := PySem.W.mg_of X G g9
  obtain ⟨g10, k10, fd10, F10⟩ := e10
  have b10 := F10.binds (ps := ["_law_more", "_law_below_here"]) fun _ _ _ _ _ _ us hl => match us, hl with | [_, _], _ => rfl
  have m10 := PySem.W.mg_of X G g10
  obtain ⟨g11, k11, fd11, F11⟩ := e11
  have b11 := F11.binds (ps := ["_law_door"]) fun _ _ _ _ _ _ us hl => match us, hl with | [_], _ => rfl
  have m11 := PySem.W.mg_of X G g11
  obtain ⟨g12, k12, fd12, F12⟩ := e12
  have b12 := F12.binds (ps := ["_law_levels", "_law_names", "_law_below_here"]) fun _ _ _ _ _ _ us hl => match us, hl with | [_, _, _], _ => rfl
  have m12 := PySem.W.mg_of X G g12
  obtain ⟨g13, k13, fd13, F13⟩ := e13
  have b13 := F13.binds (ps := ["_law_names"]) fun _ _ _ _ _ _ us hl => match us, hl with | [_], _ => rfl
  have m13 := PySem.W.mg_of X G g13
  have M0 := h0.m
  obtain ⟨a0, t0, gd0, G0⟩ := h0
  have B0 := G0.binds (ps := ["self", "thing"]) fun _ _ _ _ _ _ us hl => match us, hl with | [_, _], _ => rfl
  have M1 := h1.m
  obtain ⟨a1, t1, gd1, G1⟩ := h1
  have B1 := G1.binds (ps := ["self"]) fun _ _ _ _ _ _ us hl => match us, hl with | [_], _ => rfl
  have M2 := h2.m
  obtain ⟨a2, t2, gd2, G2⟩ := h2
  have B2 := G2.binds (ps := ["self", "level"]) fun _ _ _ _ _ _ us hl => match us, hl with | [_, _], _ => rfl
  have M3 := h3.m
  obtain ⟨a3, t3, gd3, G3⟩ := h3
  have B3 := G3.binds (ps := ["self", "one", "other"]) fun _ _ _ _ _ _ us hl => match us, hl with | [_, _, _], _ => rfl
  have M4 := h4.m
  obtain ⟨a4, t4, gd4, G4⟩ := h4
  have B4 := G4.binds (ps := ["self", "one", "other"]) fun _ _ _ _ _ _ us hl => match us, hl with | [_, _, _], _ => rfl
  have M5 := h5.m
  obtain ⟨a5, t5, gd5, G5⟩ := h5
  have B5 := G5.binds (ps := ["self", "level"]) fun _ _ _ _ _ _ us hl => match us, hl with | [_, _], _ => rfl
  have M6 := h6.m
  obtain ⟨a6, t6, gd6, G6⟩ := h6
  have B6 := G6.binds (ps := ["self", "level"]) fun _ _ _ _ _ _ us hl => match us, hl with | [_, _], _ => rfl
  have M7 := h7.m
  obtain ⟨a7, t7, gd7, G7⟩ := h7
  have B7 := G7.binds (ps := ["self", "one", "other"]) fun _ _ _ _ _ _ us hl => match us, hl with | [_, _, _], _ => rfl
  have M8 := h8.m
  obtain ⟨a8, t8, gd8, G8⟩ := h8
  have B8 := G8.binds (ps := ["self", "one", "other"]) fun _ _ _ _ _ _ us hl => match us, hl with | [_, _, _], _ => rfl
  have M9 := h9.m
  obtain ⟨a9, t9, gd9, G9⟩ := h9
  have B9 := G9.binds (ps := ["self", "other"]) fun _ _ _ _ _ _ us hl => match us, hl with | [_, _], _ => rfl
  have M10 := h10.m
  obtain ⟨a10, t10, gd10, G10⟩ := h10
  have B10 := G10.binds (ps := ["self"]) fun _ _ _ _ _ _ us hl => match us, hl with | [_], _ => rfl
  obtain ⟨gDw, kD, ccD, ocD, odD, kVD, docD, pmD, anD, ctD, oslD, lD⟩ := eD
  obtain ⟨gLw, kL, ccL, ocL, odL, kVL, docL, pmL, anL, ctL, oslL, lL⟩ := eL
  refine ⟨_, [(cD, PA), (cL, PB)], ?_, ?_, ?_, fun s v => .of_eq (fd := PySem.W.fnOf "law" "law" (defArgs sLaw) (defBody sLaw) (defScope sLaw) .none kVL docL pmL anL (.ref cL) ctL) rfl, ?_, fun base IB NB TB => ?_⟩
  · intro p hp
    rcases List.mem_cons.mp hp with rfl | hp
    · exact tabs _ (List.mem_cons_self ..)
    · rw [List.mem_singleton.mp hp]
      exact tabs _ (List.mem_cons_of_mem _ (List.mem_cons_self ..))
  · intro p hp
    rcases List.mem_cons.mp hp with rfl | hp
    · exact nA
    · rw [List.mem_singleton.mp hp]
      exact nB
  · intro p hp
    rcases List.mem_cons.mp hp with rfl | hp
    · exact PySem.W.codeHd_of_K X hD
    · rw [List.mem_singleton.mp hp]
      exact PySem.W.codeHd_of_K X hL
  · intro H a ns hl hH hS
    exact ⟨a, ns, rfl, hS, hl, tabs_of fun p hp => by
      rcases List.mem_cons.mp hp with rfl | hp
      · exact hH (cD, PA) (List.mem_cons_self ..)
      · rw [List.mem_singleton.mp hp]
        exact hH (cL, PB) (List.mem_cons_of_mem _ (List.mem_cons_self ..)), fun _ => rfl⟩
  have VA : InvE l.prog w K mg base "InvalidLevels" CA := E2.inv2 mA
  have VB : InvE l.prog w K mg base "InvalidLevel" CB := E3.inv3 mB
  have WD : Df l.prog w K mg base "is_word" ["thing"] 1 (spB K wordD) := ⟨_, _, m0, k0, ok_word F0 TX, b0⟩
  have NM : Df l.prog w K mg base "are_names" ["thing"] 2 (spB K namesD) := ⟨_, _, m1, k1, ok_names F1 TX WD, b1⟩
  have PA2 : Df l.prog w K mg base "is_pair" ["thing", "order"] 2 (spPair K) := ⟨_, _, m2, k2, ok_pairD F2 TX WD, b2⟩
  have PR : Df l.prog w K mg base "are_pairs" ["thing", "order"] 3 (spPairs K) := ⟨_, _, m3, k3, ok_pairs F3 TX PA2, b3⟩
  have LB : Df l.prog w K mg base "levels_below" ["order", "pairs"] 1 (spBelow K) := ⟨_, _, m4, k4, ok_below F4, b4⟩
  have PL : Df l.prog w K mg base "_law_pool" ["_law_script", "_law_k"] 1 (spPool K) := ⟨_, _, m5, k5, ok_pool F5 TX.len, b5⟩
  have TK : Df l.prog w K mg base "_law_take" ["_law_pool_here", "_law_sides"] 1 spTake := ⟨_, _, m6, k6, ok_take F6 TX.len, b6⟩
  have DR : Df l.prog w K mg base "_law_drawn" ["_law_pool_here"] 2 (spDrawn K) := ⟨_, _, m7, k7, ok_drawn F7 TX TK, b7⟩
  have BE : Df l.prog w K mg base "_law_below" ["_law_names", "_law_pairs"] 1 (spBelow K) := ⟨_, _, m8, k8, ok_lbelow F8, b8⟩
  have MO : Df l.prog w K mg base "_law_most" ["_law_both", "_law_below_here"] 1 (spMost K fun bl l w => decide (w ∈ bl l)) := ⟨_, _, m9, k9, ok_lmost F9 TX, b9⟩
  have LE : Df l.prog w K mg base "_law_least" ["_law_more", "_law_below_here"] 1 (spMost K fun bl l w => decide (l ∈ bl w)) := ⟨_, _, m10, k10, ok_lleast F10 TX, b10⟩
  have NO : Df l.prog w K mg base "_law_no_levels" ["_law_names"] 1 (spNo K) := ⟨_, _, m13, k13, ok_no F13 TX, b13⟩
  have HS : MD l.prog w K mg base C "has" ["self", "thing"] 1 (spHas K C) := ⟨_, _, M0, ok_has G0 TX c, B0⟩
  have NL : MD l.prog w K mg base C "names" ["self"] 1 (sp0L C) := ⟨_, _, M1, ok_namL G1 TX c, B1⟩
  have NA : MD l.prog w K mg base C "names" ["self"] 1 (sp0 K C fun ns _ => .list (txts ns)) := ⟨_, _, M1, ok_nam G1 TX c, B1⟩
  have CH : MX l.prog w K mg base C "check" ["self", "level"] 3 (sp1 K C CB fun _ _ _ => .none) := ⟨_, _, M2, ok_check G2 c VB HS, B2⟩
  have EQ : EqL l.prog w K mg base C := ⟨⟨_, _, a9, M9.fn, ok_eq G9 TX c lvi mC, B9⟩, lvi, c, nC⟩
  obtain ⟨aI, tyI, ⟨fdI, FI⟩, eI⟩ := iI
  obtain ⟨hP, fdP, FP⟩ := iP
  have M : Lms l.prog w K mg base C CB := {
    c := c
    nam := NA
    least := ⟨_, _, _, hP, ok_least FP c, FP.binds (ps := ["self"]) fun _ _ _ _ _ _ us hl => match us, hl with | [_], _ => rfl⟩
    len := ⟨_, _, a10, t10, ok_len G10 TX c, B10⟩
    check := CH
    leq := ⟨_, _, M3, ok_leq G3 c CH, B3⟩
    above := ⟨_, _, M4, ok_above G4 c CH, B4⟩
    downs := ⟨_, _, M5, ok_downs G5 TX c CH, B5⟩
    ups := ⟨_, _, M6, ok_ups G6 c CH, B6⟩
    meet := ⟨_, _, M7, ok_meet G7 TX c CH, B7⟩
    join := ⟨_, _, M8, ok_join G8 TX c CH, B8⟩ }
  have LM : MkL l.prog w K mg base C CA := ⟨⟨_, _, _, ⟨mkC, aI, (by unfold PySem.W.isFn; rw [tyI]; rfl), kpC⟩, ok_init FI TX c VA NM PR LB, init_b3 FI, init_b2 FI, eI⟩, mC⟩
  have RF : Kf l.prog w K mg base cM CA CB := ⟨⟨_, _, m11, k11, F11, b11⟩, mM, mA, mB, E2.b.ef, E3.b.ef, TX.isn, TX.rep⟩
  have RT : DfG l.prog w K mg base "_law_right" ["_law_levels", "_law_names", "_law_below_here"] 5 (spRt K C) := ⟨_, _, m12, k12, ok_rt F12 TX M MO LE, b12⟩
  have huA : ∀ p ∈ [(PA, QD), (PB, QL)], p.1 = PA → p.2 = QD := fun p hp q => by
    rcases List.mem_cons.mp hp with rfl | hp
    · rfl
    · rw [List.mem_singleton.mp hp] at q
      exact absurd q.symm hne
  have huB : ∀ p ∈ [(PA, QD), (PB, QL)], p.1 = PB → p.2 = QL := fun p hp q => by
    rcases List.mem_cons.mp hp with rfl | hp
    · exact absurd q hne
    · rw [List.mem_singleton.mp hp]
  have DO : DfG l.prog w K mg base "_law_doors_right" ["_law_levels", "_law_names"] 7 (spDoors K C [(PA, QD), (PB, QL)]) := ⟨_, _, PySem.W.mg_of X G gDw, kD, ok_doors lD ccD RF (TB (cD, PA) (List.mem_cons_self ..)) (List.mem_cons_self ..) huA M, (fun s us inK hl => match us, hl with | [_, _], _ => .of_eq (fd := PySem.W.fnOf "_law_doors_right" "_law_doors_right" (defArgs sDoors) (defBody sDoors) (defScope sDoors) .none kVD docD pmD anD (.ref cD) ctD) rfl)⟩
  exact ok_law lL ccL RF (TB (cL, PB) (List.mem_cons_of_mem _ (List.mem_cons_self ..))) (List.mem_cons_of_mem _ (List.mem_cons_self ..)) huB TX TX.rng TX.max TX.min M NL LM EQ WD PL DR BE RT NO DO
end
theorem walk {l : PySem.W.OpenLaw} {q : Program} {loose : List Str} {XP : (Str → Option Value) → Heap → Prop} {YP : World → Heap → Prop} {d : DefRec} {K : Params → PySem.W.Frag} {T : List (Addr × Str)} (hn : l.most = some 63) (hdf : d.params.defaults = [])
    (hY : ∀ (w : World) (h : Heap), YP w h → (K w.params).In h)
    (F : ∀ (w : World) (mg : Str → Option Value) (fa : Addr) (h : Heap), YP w h → (K w.params).In h → h.Ns mainGlobals mg → mg d.name = some (.ref fa) →
      ∃ (fd : FuncData) (cs : List (Addr × Addr)), (∀ p ∈ cs, h.get? p.2 = some { cls := .none, data := .fields #[] }) ∧ (∀ p ∈ cs, (K w.params).lookup p.2 = none) ∧ (∀ p ∈ cs, PySem.W.CodeHd h p.1 p.2) ∧
        (∀ (s : Shared) (u : Value), BindsTo s fd ⟨[u], []⟩ [("_law_script", u)]) ∧
        (∀ (H : Hp) (a : Addr) (ns : List Int), ns.length ≤ 63 → (∀ p ∈ cs, H p.2 = some (.tbl #[])) → SqL (K w.params) H a (ns.map V.int) → spLaw (K w.params) T [.ref a] H (fun v _ => v = .bl true) fun _ _ _ => False) ∧
        ∀ base : Heap, (K w.params).In base → base.Ns mainGlobals mg → (∀ p ∈ cs, LamX.TabB base mg p.1 p.2) → FnG l.prog w (K w.params) mg base CX0 8 fa fd ["_law_script"] (spLaw (K w.params) T)) :
    PySem.W.WalkO q loose XP YP l.row.toRowW d [] (fun f vs => PySem.call f vs) :=
  My.walkGT (n := 63) (k := 8) (x := "_law_script") (sp := fun w => spLaw (K w.params) T) hn (by decide) hdf ⟨rfl, by decide, by decide⟩ hY F
end K01
open PySem PySem.W PyProof.Rows in
set_option maxRecDepth 100000 in
set_option maxHeartbeats 0 in
theorem PySem.Challenge.cw_maskededits_k01_levels_told_holds : PySem.Challenge.rw_maskededits_k01_levels_told.Holds := by
  w_on; o_law; k_head; (case hw => w_witness2)
  k_fill
  refine' K01.walk (l := PySem.Challenge.rw_maskededits_k01_levels_told) (T := ?T) rfl rfl (fun w h Y => PySem.W.km_in_of Y) ?F
  case F =>
    intro w mg fa h Y KX G hmg
    have tabs := PySem.W.km_tabs_of Y
    refine' K01.all_mk KX G hmg tabs (K01.hasErr ?g2 ?l2 ?i2 ?t2 ?lf2 ?cf2 ?kf2 ?hb2) (K01.hasErr ?g3 ?l3 ?i3 ?t3 ?lf3 ?cf3 ?kf3 ?hb3) ?gM ?gC ?lb ?iI ?iP ?h0 ?h1 ?h2 ?h3 ?h4 ?h5 ?h6 ?h7 ?h8 ?h9 ?h10 ?e0 ?e1 ?e2 ?e3 ?e4 ?e5 ?e6 ?e7 ?e8 ?e9 ?e10 ?e11 ?e12 ?e13 ?eD ?eL ?hD ?hL ?nA ?nB ?hne ?z0 ?z1 ?z2 ?z3 ?z4 ?z5 ?z6 ?z7 ?z8 ?z9 ?z10 ?gL ?gW ?gS ?rL ?rW ?rM
    (case g2 => k_is)
    (case l2 => k_is)
    (case i2 => k_is)
    (case t2 => k_is)
    (case lf2 => k_is)
    (case cf2 => k_is)
    (case kf2 => k_is)
    (case g3 => k_is)
    (case l3 => k_is)
    (case i3 => k_is)
    (case t3 => k_is)
    (case lf3 => k_is)
    (case cf3 => k_is)
    (case kf3 => k_is)
    (case hb2 => first | kernel_rfl | k_is)
    (case hb3 => first | kernel_rfl | k_is)
    (case gM => k_is)
    (case gC => k_is)
    (case lb => first | kernel_rfl | k_is)
    (case iI => refine' K01.hasInit ?a ?ty ?lf ?cf ?kf ?lD ?lt; (case a => k_is); (case ty => k_is); (case lf => k_is); (case cf => k_is); (case kf => k_is); (case lD => k_is); (case lt => k_is))
    (case iP => refine' K01.hasProp ?a ?r ?g ?t ?lf ?cf ?kf; (case a => k_is); (case r => k_is); (case g => k_is); (case t => k_is); (case lf => k_is); (case cf => k_is); (case kf => k_is))
    (case h0 => refine' K01.hasMeth ?a ?t ?lf ?cf ?kf; (case a => k_is); (case t => k_is); (case lf => k_is); (case cf => k_is); (case kf => k_is))
    (case h1 => refine' K01.hasMeth ?a ?t ?lf ?cf ?kf; (case a => k_is); (case t => k_is); (case lf => k_is); (case cf => k_is); (case kf => k_is))
    (case h2 => refine' K01.hasMeth ?a ?t ?lf ?cf ?kf; (case a => k_is); (case t => k_is); (case lf => k_is); (case cf => k_is); (case kf => k_is))
    (case h3 => refine' K01.hasMeth ?a ?t ?lf ?cf ?kf; (case a => k_is); (case t => k_is); (case lf => k_is); (case cf => k_is); (case kf => k_is))
    (case h4 => refine' K01.hasMeth ?a ?t ?lf ?cf ?kf; (case a => k_is); (case t => k_is); (case lf => k_is); (case cf => k_is); (case kf => k_is))
    (case h5 => refine' K01.hasMeth ?a ?t ?lf ?cf ?kf; (case a => k_is); (case t => k_is); (case lf => k_is); (case cf => k_is); (case kf => k_is))
    (case h6 => refine' K01.hasMeth ?a ?t ?lf ?cf ?kf; (case a => k_is); (case t => k_is); (case lf => k_is); (case cf => k_is); (case kf => k_is))
    (case h7 => refine' K01.hasMeth ?a ?t ?lf ?cf ?kf; (case a => k_is); (case t => k_is); (case lf => k_is); (case cf => k_is); (case kf => k_is))
    (case h8 => refine' K01.hasMeth ?a ?t ?lf ?cf ?kf; (case a => k_is); (case t => k_is); (case lf => k_is); (case cf => k_is); (case kf => k_is))
    (case h9 => refine' K01.hasMeth ?a ?t ?lf ?cf ?kf; (case a => k_is); (case t => k_is); (case lf => k_is); (case cf => k_is); (case kf => k_is))
    (case h10 => refine' K01.hasMeth ?a ?t ?lf ?cf ?kf; (case a => k_is); (case t => k_is); (case lf => k_is); (case cf => k_is); (case kf => k_is))
    (case e0 => refine' K01.hasDef ?g ?lf ?cf ?kf; (case g => k_is); (case lf => k_is); (case cf => k_is); (case kf => k_is))
    (case e1 => refine' K01.hasDef ?g ?lf ?cf ?kf; (case g => k_is); (case lf => k_is); (case cf => k_is); (case kf => k_is))
    (case e2 => refine' K01.hasDef ?g ?lf ?cf ?kf; (case g => k_is); (case lf => k_is); (case cf => k_is); (case kf => k_is))
    (case e3 => refine' K01.hasDef ?g ?lf ?cf ?kf; (case g => k_is); (case lf => k_is); (case cf => k_is); (case kf => k_is))
    (case e4 => refine' K01.hasDef ?g ?lf ?cf ?kf; (case g => k_is); (case lf => k_is); (case cf => k_is); (case kf => k_is))
    (case e5 => refine' K01.hasDef ?g ?lf ?cf ?kf; (case g => k_is); (case lf => k_is); (case cf => k_is); (case kf => k_is))
    (case e6 => refine' K01.hasDef ?g ?lf ?cf ?kf; (case g => k_is); (case lf => k_is); (case cf => k_is); (case kf => k_is))
    (case e7 => refine' K01.hasDef ?g ?lf ?cf ?kf; (case g => k_is); (case lf => k_is); (case cf => k_is); (case kf => k_is))
    (case e8 => refine' K01.hasDef ?g ?lf ?cf ?kf; (case g => k_is); (case lf => k_is); (case cf => k_is); (case kf => k_is))
    (case e9 => refine' K01.hasDef ?g ?lf ?cf ?kf; (case g => k_is); (case lf => k_is); (case cf => k_is); (case kf => k_is))
    (case e10 => refine' K01.hasDef ?g ?lf ?cf ?kf; (case g => k_is); (case lf => k_is); (case cf => k_is); (case kf => k_is))
    (case e11 => refine' K01.hasDef ?g ?lf ?cf ?kf; (case g => k_is); (case lf => k_is); (case cf => k_is); (case kf => k_is))
    (case e12 => refine' K01.hasDef ?g ?lf ?cf ?kf; (case g => k_is); (case lf => k_is); (case cf => k_is); (case kf => k_is))
    (case e13 => refine' K01.hasDef ?g ?lf ?cf ?kf; (case g => k_is); (case lf => k_is); (case cf => k_is); (case kf => k_is))
    (case eD => refine' K01.hasDefC ?g ?lf ?cf ?kf; (case g => k_is); (case lf => k_is); (case cf => k_is); (case kf => k_is))
    (case eL => refine' K01.hasDefC ?g ?lf ?cf ?kf; (case g => k_is); (case lf => k_is); (case cf => k_is); (case kf => k_is))
    (case z0 => k_is)
    (case z1 => k_is)
    (case z2 => k_is)
    (case z3 => k_is)
    (case z4 => k_is)
    (case z5 => k_is)
    (case z6 => k_is)
    (case z7 => k_is)
    (case z8 => k_is)
    (case z9 => k_is)
    (case z10 => k_is)
    (case gL => k_is)
    (case gW => k_is)
    (case gS => k_is)
    (case rL => exact ⟨_, rfl⟩)
    (case rW => exact ⟨_, rfl⟩)
    (case rM => exact ⟨_, rfl⟩)
    (case hD => kernel_rfl)
    (case hL => kernel_rfl)
    (case nA => kernel_rfl)
    (case nB => kernel_rfl)
    (case hne => decide)
